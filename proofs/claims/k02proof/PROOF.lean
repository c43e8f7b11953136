import PyProof.Rows.All
import Wide.All
import OpenK.AllK
import Wide.FinOn
import HandS.ForMost
import HandS.Evl
import HandS.IsInst
import HandS.TupAny
import HandS.TupMul
import HandS.Zip
import HandS.Style
import HandS.Flow
import HandS.WordsExc
import HandS.SortKw
import PyProof.MinMaxWalk
import PyProof.WalkInts
import PyProof.EnumMake
import PyProof.Draws
import KE.GoesMore
import HandS.Wide
import PyProof.ReprRoads
import HandS.Ends
import PyProof.ReprBulk
import PySem.Challenge.RW_widthmix_k02_tables_or_not
set_option Elab.async false
set_option linter.all false
set_option maxRecDepth 100000
set_option maxHeartbeats 4000000
namespace Fw
open PySem PySem.Spec PyProof.Rows L2
open Evl (Ex)
/-! ### data -/
inductive Dt where
  | non
  | bl (b : Bool)
  | int (i : Int)
  | str (s : Str)
  | lst (xs : List Dt)
  | tup (xs : List Dt)
  | dic
  | ptr (a : Addr)
  | cls (v : V)
  | scr (ns : List Int)
mutual
inductive Den (K : PySem.W.Frag) (G : Hp) : V → Dt → Prop
  | non : Den K G .non .non
  | bl (b : Bool) : Den K G (.bl b) (.bl b)
  | int (i : Int) : Den K G (.int i) (.int i)
  | str (x : Str) : Den K G (.str x) (.str x)
  | lst {a : Addr} {xs : List V} {ds : List Dt} : G a = some (.lst xs) → Dens K G xs ds → Den K G (.ref a) (.lst ds)
  | tup {a : Addr} {xs : List V} {ds : List Dt} : G a = some (.tup xs) → Dens K G xs ds → Den K G (.ref a) (.tup ds)
  | dic {a : Addr} : G a = some (.dK []) → Den K G (.ref a) .dic
  | ptr (a : Addr) : Den K G (.ref a) (.ptr a)
  | cls (v : V) : Den K G v (.cls v)
  | scr {a : Addr} {ns : List Int} : SqL K G a (ns.map V.int) → Den K G (.ref a) (.scr ns)
inductive Dens (K : PySem.W.Frag) (G : Hp) : List V → List Dt → Prop
  | nil : Dens K G [] []
  | cons {v : V} {vs : List V} {d : Dt} {ds : List Dt} : Den K G v d → Dens K G vs ds → Dens K G (v :: vs) (d :: ds)
end
section
variable {K : PySem.W.Frag} {G G' : Hp}
mutual
theorem Den.mono (e : Ex G G') : ∀ {v : V} {d : Dt}, Den K G v d → Den K G' v d
  | _, _, .non => .non
  | _, _, .bl b => .bl b
  | _, _, .int i => .int i
  | _, _, .str x => .str x
  | _, _, .lst h hs => .lst (e _ _ h) (Dens.mono e hs)
  | _, _, .tup h hs => .tup (e _ _ h) (Dens.mono e hs)
  | _, _, .dic h => .dic (e _ _ h)
  | _, _, .ptr a => .ptr a
  | _, _, .cls v => .cls v
  | _, _, .scr h => .scr (Evl.ex_l e h)
theorem Dens.mono (e : Ex G G') : ∀ {vs : List V} {ds : List Dt}, Dens K G vs ds → Dens K G' vs ds
  | _, _, .nil => .nil
  | _, _, .cons h hs => .cons (Den.mono e h) (Dens.mono e hs)
end
theorem Dens.len : ∀ {vs : List V} {ds : List Dt}, Dens K G vs ds → vs.length = ds.length
  | _, _, .nil => rfl
  | _, _, .cons _ hs => by rw [List.length_cons, List.length_cons, Dens.len hs]
theorem Dens.app : ∀ {vs us : List V} {ds es : List Dt}, Dens K G vs ds → Dens K G us es → Dens K G (vs ++ us) (ds ++ es)
  | _, _, _, _, .nil, h => h
  | _, _, _, _, .cons h hs, h2 => .cons h (Dens.app hs h2)
theorem Dens.get : ∀ {vs : List V} {ds : List Dt}, Dens K G vs ds → ∀ {i : Nat} {d : Dt}, ds[i]? = some d → ∃ v, vs[i]? = some v ∧ Den K G v d
  | _, _, .nil, _, _, h => by simp at h
  | _, _, .cons h hs, 0, d, e => by
    cases (show _ = d from Option.some.inj e)
    exact ⟨_, rfl, h⟩
  | _, _, .cons h hs, i + 1, d, e => Dens.get hs (i := i) e
theorem Dens.getV : ∀ {vs : List V} {ds : List Dt}, Dens K G vs ds → ∀ {i : Nat} {v : V}, vs[i]? = some v → ∃ d, ds[i]? = some d ∧ Den K G v d
  | _, _, .nil, _, _, h => by simp at h
  | _, _, .cons h hs, 0, v, e => by
    cases (show _ = v from Option.some.inj e)
    exact ⟨_, rfl, h⟩
  | _, _, .cons h hs, i + 1, v, e => Dens.getV hs (i := i) e
theorem Dens.drop : ∀ {vs : List V} {ds : List Dt}, Dens K G vs ds → ∀ n, Dens K G (vs.drop n) (ds.drop n)
  | _, _, h, 0 => h
  | _, _, .nil, n + 1 => .nil
  | _, _, .cons _ hs, n + 1 => Dens.drop hs n
theorem Dens.take : ∀ {vs : List V} {ds : List Dt}, Dens K G vs ds → ∀ n, Dens K G (vs.take n) (ds.take n)
  | _, _, _, 0 => .nil
  | _, _, .nil, n + 1 => .nil
  | _, _, .cons h hs, n + 1 => .cons h (Dens.take hs n)
theorem Dens.rev : ∀ {vs : List V} {ds : List Dt}, Dens K G vs ds → Dens K G vs.reverse ds.reverse
  | _, _, .nil => .nil
  | _, _, .cons h hs => by
    rw [List.reverse_cons, List.reverse_cons]
    exact (Dens.rev hs).app (.cons h .nil)
theorem Dens.ints : ∀ {vs : List V} {ns : List Int}, Dens K G vs (ns.map Dt.int) → vs = ns.map V.int
  | _, [], .nil => rfl
  | _, n :: ns, .cons h hs => by
    cases h
    rw [Dens.ints hs]
    rfl
theorem Dens.bls : ∀ {vs : List V} {ns : List Bool}, Dens K G vs (ns.map Dt.bl) → vs = ns.map V.bl
  | _, [], .nil => rfl
  | _, n :: ns, .cons h hs => by
    cases h
    rw [Dens.bls hs]
    rfl
theorem Dens.rep {vs : List V} {ds : List Dt} (h : Dens K G vs ds) : ∀ n, Dens K G (List.replicate n vs).flatten (List.replicate n ds).flatten
  | 0 => .nil
  | n + 1 => by
    rw [List.replicate_succ, List.replicate_succ, List.flatten_cons, List.flatten_cons]
    exact h.app (Dens.rep h n)
end
/-! ### the heap in three parts: data, what is owned, the frame -/
structure Sp3 (G R F H : Hp) : Prop where
  g : Ex G H
  r : Ex R H
  f : Ex F H
  gr : ∀ a, G a = none ∨ R a = none
  gf : ∀ a, G a = none ∨ F a = none
  rf : ∀ a, R a = none ∨ F a = none
theorem Ex.no {G H : Hp} (e : Ex G H) {p : Addr} (h : H p = none) : G p = none := Evl.fresh_back e h
section
variable {G R F H : Hp} {p : Addr} {o : HO}
theorem Sp3.new (s : Sp3 G R F H) (h : H p = none) : Sp3 (upd G p o) R F (upd H p o) := by
  have hg := Ex.no s.g h
  have hr := Ex.no s.r h
  have hf := Ex.no s.f h
  refine ⟨fun a u e => ?_, fun a u e => ?_, fun a u e => ?_, fun a => ?_, fun a => ?_, s.rf⟩
  · by_cases ha : a = p
    · subst ha
      rw [upd_same] at e ⊢
      exact e
    · rw [upd_ne ha] at e ⊢
      exact s.g a u e
  · have ha : a ≠ p := ne_of_none e hr
    rw [upd_ne ha]
    exact s.r a u e
  · have ha : a ≠ p := ne_of_none e hf
    rw [upd_ne ha]
    exact s.f a u e
  · by_cases ha : a = p
    · subst ha
      exact .inr hr
    · rw [upd_ne ha]
      exact s.gr a
  · by_cases ha : a = p
    · subst ha
      exact .inr hf
    · rw [upd_ne ha]
      exact s.gf a
theorem Ex.new1 (s : Sp3 G R F H) (h : H p = none) : Ex G (upd G p o) := Evl.Ex.new (Ex.no s.g h)
/-- a new object in the frame -/
theorem Sp3.newF (s : Sp3 G R F H) (h : H p = none) : Sp3 G R (upd F p o) (upd H p o) := by
  have hg := Ex.no s.g h
  have hr := Ex.no s.r h
  have hf := Ex.no s.f h
  refine ⟨fun a u e => ?_, fun a u e => ?_, fun a u e => ?_, s.gr, fun a => ?_, fun a => ?_⟩
  · have ha : a ≠ p := ne_of_none e hg
    rw [upd_ne ha]
    exact s.g a u e
  · have ha : a ≠ p := ne_of_none e hr
    rw [upd_ne ha]
    exact s.r a u e
  · by_cases ha : a = p
    · subst ha
      rw [upd_same] at e ⊢
      exact e
    · rw [upd_ne ha] at e ⊢
      exact s.f a u e
  · by_cases ha : a = p
    · subst ha
      exact .inl hg
    · rw [upd_ne ha]
      exact s.gf a
  · by_cases ha : a = p
    · subst ha
      exact .inl hr
    · rw [upd_ne ha]
      exact s.rf a
/-- the frame's own object changes -/
theorem Sp3.setF {o' : HO} (s : Sp3 G R (upd F p o) H) : Sp3 G R (upd F p o') (upd H p o') := by
  have hg : G p = none := by
    rcases s.gf p with h | h
    · exact h
    · rw [upd_same] at h
      cases h
  have hr : R p = none := by
    rcases s.rf p with h | h
    · exact h
    · rw [upd_same] at h
      cases h
  refine ⟨fun a u e => ?_, fun a u e => ?_, fun a u e => ?_, s.gr, fun a => ?_, fun a => ?_⟩
  · have ha : a ≠ p := ne_of_none e hg
    rw [upd_ne ha]
    exact s.g a u e
  · have ha : a ≠ p := ne_of_none e hr
    rw [upd_ne ha]
    exact s.r a u e
  · by_cases ha : a = p
    · subst ha
      rw [upd_same] at e ⊢
      exact e
    · rw [upd_ne ha] at e ⊢
      exact s.f a u (by rw [upd_ne ha]; exact e)
  · by_cases ha : a = p
    · subst ha
      exact .inl hg
    · rw [upd_ne ha]
      have q := s.gf a
      rw [upd_ne ha] at q
      exact q
  · by_cases ha : a = p
    · subst ha
      exact .inl hr
    · rw [upd_ne ha]
      have q := s.rf a
      rw [upd_ne ha] at q
      exact q
/-- the frame's object becomes data -/
theorem Sp3.give (s : Sp3 G R (upd F p o) H) (hf : F p = none) : Sp3 (upd G p o) R F H := by
  have hr : R p = none := by
    rcases s.rf p with h | h
    · exact h
    · rw [upd_same] at h
      cases h
  have hp : H p = some o := s.f p o upd_same
  refine ⟨fun a u e => ?_, s.r, fun a u e => ?_, fun a => ?_, fun a => ?_, fun a => ?_⟩
  · by_cases ha : a = p
    · subst ha
      rw [upd_same] at e
      cases e
      exact hp
    · rw [upd_ne ha] at e
      exact s.g a u e
  · have ha : a ≠ p := ne_of_none e hf
    exact s.f a u (by rw [upd_ne ha]; exact e)
  · by_cases ha : a = p
    · subst ha
      exact .inr hr
    · rw [upd_ne ha]
      exact s.gr a
  · by_cases ha : a = p
    · subst ha
      exact .inr hf
    · rw [upd_ne ha]
      have q := s.gf a
      rw [upd_ne ha] at q
      exact q
  · by_cases ha : a = p
    · subst ha
      exact .inr hf
    · have q := s.rf a
      rw [upd_ne ha] at q
      exact q
theorem Sp3.giveEx (s : Sp3 G R (upd F p o) H) : Ex G (upd G p o) := by
  have hg : G p = none := by
    rcases s.gf p with h | h
    · exact h
    · rw [upd_same] at h
      cases h
  exact Evl.Ex.new hg
end
/-! ### the slots -/
abbrev Sl := List (Option Dt)
structure EnvD (K : PySem.W.Frag) (G : Hp) (σ : L2.St) (Δ : Sl) : Prop where
  len : σ.length = Δ.length
  at' : ∀ (i : Nat) (d : Dt), Δ[i]? = some (some d) → ∃ v, σ[i]? = some (some v) ∧ Den K G v d
theorem EnvD.mono {K : PySem.W.Frag} {G G' : Hp} {σ : L2.St} {Δ : Sl} (h : EnvD K G σ Δ) (e : Ex G G') : EnvD K G' σ Δ := ⟨h.len, fun i d hi => by
  obtain ⟨v, a, b⟩ := h.at' i d hi
  exact ⟨v, a, b.mono e⟩⟩
theorem EnvD.set {K : PySem.W.Frag} {G : Hp} {σ : L2.St} {Δ : Sl} (h : EnvD K G σ Δ) {j : Nat} {v : V} {d : Dt} (hd : Den K G v d) : EnvD K G (σ.set j (some v)) (Δ.set j (some d)) := ⟨by rw [List.length_set, List.length_set]; exact h.len, fun i d' hi => by
  by_cases e : j = i
  · subst e
    by_cases hj : j < Δ.length
    · rw [List.getElem?_set_self hj] at hi
      cases hi
      exact ⟨v, List.getElem?_set_self (by rw [h.len]; exact hj), hd⟩
    · rw [List.getElem?_eq_none (by simpa using hj)] at hi
      cases hi
  · rw [List.getElem?_set_ne e] at hi ⊢
    exact h.at' i d' hi⟩
theorem EnvD.setN {K : PySem.W.Frag} {G : Hp} {σ : L2.St} {Δ : Sl} (h : EnvD K G σ Δ) {j : Nat} {v : Option V} : EnvD K G (σ.set j v) (Δ.set j none) := ⟨by rw [List.length_set, List.length_set]; exact h.len, fun i d' hi => by
  by_cases e : j = i
  · subst e
    by_cases hj : j < Δ.length
    · rw [List.getElem?_set_self hj] at hi
      cases hi
    · rw [List.getElem?_eq_none (by simpa using hj)] at hi
      cases hi
  · rw [List.getElem?_set_ne e] at hi ⊢
    exact h.at' i d' hi⟩
def wipeD (Δ : Sl) : List Nat → Sl
  | [] => Δ
  | v :: vs => (wipeD Δ vs).set v none
theorem EnvD.wipe {K : PySem.W.Frag} {G : Hp} {σ : L2.St} {Δ : Sl} (h : EnvD K G σ Δ) : ∀ vs : List Nat, EnvD K G (wipe σ vs) (wipeD Δ vs)
  | [] => h
  | v :: vs => (EnvD.wipe h vs).setN
theorem EnvD.start {K : PySem.W.Frag} {G : Hp} {N : List Str} {vs : List V} {ds : List Dt} (h : Dens K G vs ds) : EnvD K G (start N vs) (ds.map some ++ List.replicate (N.length - ds.length) none) := by
  refine ⟨?_, fun i d hi => ?_⟩
  · unfold L2.start
    simp only [List.length_append, List.length_map, List.length_replicate, h.len]
  · unfold L2.start
    by_cases hl : i < ds.length
    · rw [List.getElem?_append_left (by simpa using hl), List.getElem?_map] at hi
      obtain ⟨d', e1, e2⟩ := Option.map_eq_some_iff.mp hi
      cases e2
      obtain ⟨v, a, b⟩ := h.get e1
      refine ⟨v, ?_, b⟩
      rw [List.getElem?_append_left (by rw [List.length_map, h.len]; exact hl), List.getElem?_map, a]
      rfl
    · rw [List.getElem?_append_right (by simpa using hl), List.getElem?_replicate] at hi
      split at hi <;> cases hi
theorem wipe_set_mem {σ : L2.St} {x : Option V} {j : Nat} : ∀ {vs : List Nat}, j ∈ vs → wipe (σ.set j x) vs = wipe σ vs
  | v :: vs, h => by
    show (wipe (σ.set j x) vs).set v none = (wipe σ vs).set v none
    by_cases hj : j ∈ vs
    · rw [wipe_set_mem hj]
    · have e : v = j := by
        rcases List.mem_cons.mp h with q | q
        · exact q.symm
        · exact absurd q hj
      subst e
      have go : ∀ us : List Nat, v ∉ us → (wipe (σ.set v x) us) = (wipe σ us).set v x := fun us => by
        induction us with
        | nil => exact fun _ => rfl
        | cons u us ih =>
          intro hn
          show (wipe (σ.set v x) us).set u none = ((wipe σ us).set u none).set v x
          rw [ih (fun z => hn (List.mem_cons_of_mem _ z)), List.set_comm]
          exact fun z => hn (by rw [z]; exact List.mem_cons_self)
      rw [go vs hj, List.set_set]
theorem wipe_wipe {σ : L2.St} : ∀ {vs us : List Nat}, (∀ v ∈ vs, v ∈ us) → wipe (wipe σ vs) us = wipe σ us
  | [], us, _ => rfl
  | v :: vs, us, h => by
    show wipe ((wipe σ vs).set v none) us = wipe σ us
    rw [wipe_set_mem (h v List.mem_cons_self)]
    exact wipe_wipe fun u hu => h u (List.mem_cons_of_mem _ hu)
end Fw
set_option Elab.async false
set_option linter.all false
set_option maxRecDepth 100000
set_option maxHeartbeats 4000000
namespace Fw
open PySem PySem.Spec PyProof.Rows L2
open Evl (Ex)
/-- what is owned (a deck), by the number of draws so far at most; BIG draws are never made -/
abbrev BIG : Nat := 1000000000000
structure Res where
  p : Nat → Hp → Prop
  mono : ∀ {m n : Nat} {R : Hp}, m ≤ n → p m R → p n R
theorem Res.as2 (I : Res) {m a b : Nat} {R : Hp} (h : I.p (m + a + b) R) : I.p (m + (a + b)) R := by
  rw [← Nat.add_assoc]
  exact h
theorem Res.as3 (I : Res) {m a b c : Nat} {R : Hp} (h : I.p (m + a + b + c) R) : I.p (m + (a + b + c)) R := by
  rw [← Nat.add_assoc, ← Nat.add_assoc]
  exact h
def Ev (K : PySem.W.Frag) (I : Res) (c : Nat) (te : TE) (Δ : Sl) (P : Dt → Prop) : Prop :=
  ∀ m σ G F R H, m + c ≤ BIG → EnvD K G σ Δ → I.p m R → Sp3 G R F H → ∀ Q : VK, (∀ v d G' R' H', Ex G G' → I.p (m + c) R' → Sp3 G' R' F H' → Den K G' v d → P d → Q v H') → te σ H Q
def EvT (K : PySem.W.Frag) (I : Res) (c : Nat) (tt : TT) (Δ : Sl) (P : Bool → Prop) : Prop :=
  ∀ m σ G F R H, m + c ≤ BIG → EnvD K G σ Δ → I.p m R → Sp3 G R F H → ∀ Q : Bool → Hp → Prop, (∀ b G' R' H', Ex G G' → I.p (m + c) R' → Sp3 G' R' F H' → P b → Q b H') → tt σ H Q
def EvA (K : PySem.W.Frag) (I : Res) (c : Nat) (ta : TA) (Δ : Sl) (P : List Dt → Prop) : Prop :=
  ∀ m σ G F R H, m + c ≤ BIG → EnvD K G σ Δ → I.p m R → Sp3 G R F H → ∀ Q : List V → Hp → Prop, (∀ vs ds G' R' H', Ex G G' → I.p (m + c) R' → Sp3 G' R' F H' → Dens K G' vs ds → P ds → Q vs H') → ta σ H Q
def EvO (K : PySem.W.Frag) (I : Res) (c : Nat) (to : TO) (Δ : Sl) (P : Option Int → Prop) : Prop :=
  ∀ m σ G F R H, m + c ≤ BIG → EnvD K G σ Δ → I.p m R → Sp3 G R F H → ∀ Q : Option Int → Hp → Prop, (∀ o G' R' H', Ex G G' → I.p (m + c) R' → Sp3 G' R' F H' → P o → Q o H') → to σ H Q
/-- an operation on values -/
def OpD (K : PySem.W.Frag) (r : R2) (x y : Dt) (P : Dt → Prop) : Prop :=
  ∀ v w G F R H, Sp3 G R F H → Den K G v x → Den K G w y → ∀ Q : VK, (∀ z d G' H', Ex G G' → Sp3 G' R F H' → Den K G' z d → P d → Q z H') → r v w H Q
def UnD (K : PySem.W.Frag) (r : V → Hp → VK → Prop) (x : Dt) (P : Dt → Prop) : Prop :=
  ∀ v G F R H, Sp3 G R F H → Den K G v x → ∀ Q : VK, (∀ z d G' H', Ex G G' → Sp3 G' R F H' → Den K G' z d → P d → Q z H') → r v H Q
def CallD (K : PySem.W.Frag) (r : List V → Hp → VK → Prop) (xs : List Dt) (P : Dt → Prop) : Prop :=
  ∀ vs G F R H, Sp3 G R F H → Dens K G vs xs → ∀ Q : VK, (∀ z d G' H', Ex G G' → Sp3 G' R F H' → Den K G' z d → P d → Q z H') → r vs H Q
section
variable {K : PySem.W.Frag} {I : Res} {Δ : Sl} {ta tb tc te : TE} {t u : TT} {P P1 P2 P3 : Dt → Prop} {B B1 B2 : Bool → Prop}
theorem Ev.imp {c : Nat} (h : Ev K I c te Δ P) (hp : ∀ d, P d → P1 d) : Ev K I c te Δ P1 := fun m σ G F R H mb e i s Q q => h m σ G F R H mb e i s Q fun v d G' R' H' a b c dd p => q v d G' R' H' a b c dd (hp d p)
theorem Ev.le {c c' : Nat} (h : Ev K I c te Δ P) (hc : c ≤ c') : Ev K I c' te Δ P := fun m σ G F R H mb e i s Q q => h m σ G F R H (by omega) e i s Q fun v d G' R' H' a b c dd p => q v d G' R' H' a (I.mono (by omega) b) c dd p
theorem EvT.imp {c : Nat} (h : EvT K I c t Δ B) (hp : ∀ d, B d → B1 d) : EvT K I c t Δ B1 := fun m σ G F R H mb e i s Q q => h m σ G F R H mb e i s Q fun b G' R' H' a c dd p => q b G' R' H' a c dd (hp b p)
theorem EvT.le {c c' : Nat} (h : EvT K I c t Δ B) (hc : c ≤ c') : EvT K I c' t Δ B := fun m σ G F R H mb e i s Q q => h m σ G F R H (by omega) e i s Q fun b G' R' H' a c dd p => q b G' R' H' a (I.mono (by omega) c) dd p
theorem ev_var {i : Nat} {d : Dt} (h : Δ[i]? = some (some d)) : Ev K I 0 (tVar i) Δ (· = d) := fun m σ G F R H mb e i s Q q => by
  obtain ⟨v, a, b⟩ := e.at' _ _ h
  exact ⟨v, a, q v d G R H (Evl.Ex.refl _) i s b rfl⟩
theorem ev_int {n : Int} : Ev K I 0 (tC (.int n)) Δ (· = .int n) := fun m σ G F R H mb e i s Q q => q _ _ G R H (Evl.Ex.refl _) i s (.int n) rfl
theorem ev_bl {n : Bool} : Ev K I 0 (tC (.bl n)) Δ (· = .bl n) := fun m σ G F R H mb e i s Q q => q _ _ G R H (Evl.Ex.refl _) i s (.bl n) rfl
theorem ev_str {n : Str} : Ev K I 0 (tC (.str n)) Δ (· = .str n) := fun m σ G F R H mb e i s Q q => q _ _ G R H (Evl.Ex.refl _) i s (.str n) rfl
theorem ev_non : Ev K I 0 (tC .non) Δ (· = .non) := fun m σ G F R H mb e i s Q q => q _ _ G R H (Evl.Ex.refl _) i s .non rfl
theorem ev_cls {v : V} : Ev K I 0 (tC v) Δ (· = .cls v) := fun m σ G F R H mb e i s Q q => q _ _ G R H (Evl.Ex.refl _) i s (.cls v) rfl
theorem ev_op {c1 c2 : Nat} {r : R2} (ha : Ev K I c1 ta Δ P1) (hb : Ev K I c2 tb Δ P2) (hr : ∀ x y, P1 x → P2 y → OpD K r x y P) : Ev K I (c1 + c2) (tOp r ta tb) Δ P := fun m σ G F R H mb e i s Q q =>
  ha m σ G F R H (by omega) e i s _ fun x dx G1 R1 H1 e1 i1 s1 d1 p1 => hb _ σ G1 F R1 H1 (by omega) (e.mono e1) i1 s1 _ fun y dy G2 R2 H2 e2 i2 s2 d2 p2 =>
    hr dx dy p1 p2 x y G2 F R2 H2 s2 (d1.mono e2) d2 Q fun z d G3 H3 e3 s3 d3 p3 => q z d G3 R2 H3 ((e1.trans e2).trans e3) (I.as2 i2) s3 d3 p3
theorem ev_un {c : Nat} {r : V → Hp → VK → Prop} (ha : Ev K I c ta Δ P1) (hr : ∀ x, P1 x → UnD K r x P) : Ev K I c (tUn r ta) Δ P := fun m σ G F R H mb e i s Q q =>
  ha m σ G F R H mb e i s _ fun x dx G1 R1 H1 e1 i1 s1 d1 p1 => hr dx p1 x G1 F R1 H1 s1 d1 Q fun z d G3 H3 e3 s3 d3 p3 => q z d G3 R1 H3 (e1.trans e3) i1 s3 d3 p3
theorem ev_cb {c : Nat} {r : List V → Hp → VK → Prop} {tr : TA} {Ps : List Dt → Prop} (ha : EvA K I c tr Δ Ps) (hr : ∀ xs, Ps xs → CallD K r xs P) : Ev K I c (tCB r tr) Δ P := fun m σ G F R H mb e i s Q q =>
  ha m σ G F R H mb e i s _ fun x dx G1 R1 H1 e1 i1 s1 d1 p1 => hr dx p1 x G1 F R1 H1 s1 d1 Q fun z d G3 H3 e3 s3 d3 p3 => q z d G3 R1 H3 (e1.trans e3) i1 s3 d3 p3
theorem ea_nil : EvA K I 0 tNil Δ (· = []) := fun m σ G F R H mb e i s Q q => q _ _ G R H (Evl.Ex.refl _) i s .nil rfl
theorem ea_cons {c1 c2 : Nat} {tr : TA} {Ps : List Dt → Prop} (ha : Ev K I c1 ta Δ P1) (hr : EvA K I c2 tr Δ Ps) : EvA K I (c1 + c2) (tCons ta tr) Δ (fun ds => ∃ d es, ds = d :: es ∧ P1 d ∧ Ps es) := fun m σ G F R H mb e i s Q q =>
  ha m σ G F R H (by omega) e i s _ fun x dx G1 R1 H1 e1 i1 s1 d1 p1 => hr _ σ G1 F R1 H1 (by omega) (e.mono e1) i1 s1 _ fun ys dys G2 R2 H2 e2 i2 s2 d2 p2 =>
    q _ _ G2 R2 H2 (e1.trans e2) (I.as2 i2) s2 (.cons (d1.mono e2) d2) ⟨_, _, rfl, p1, p2⟩
theorem ev_tup {c : Nat} {tr : TA} {Ps : List Dt → Prop} (ha : EvA K I c tr Δ Ps) (hl : ∀ ds, Ps ds → ds.length ≤ sizeLine ∧ P (.tup ds)) : Ev K I c (tTup tr) Δ P := fun m σ G F R H mb e i s Q q =>
  ha m σ G F R H mb e i s _ fun xs ds G1 R1 H1 e1 i1 s1 d1 p1 => ⟨by rw [d1.len]; exact (hl ds p1).1, fun p hp => q _ _ _ _ _ (e1.trans (Ex.new1 s1 hp)) i1 (s1.new hp) (.tup upd_same (d1.mono (Ex.new1 s1 hp))) (hl ds p1).2⟩
theorem ev_lst {c : Nat} {tr : TA} {Ps : List Dt → Prop} (ha : EvA K I c tr Δ Ps) (hl : ∀ ds, Ps ds → ds.length ≤ sizeLine ∧ P (.lst ds)) : Ev K I c (tLst tr) Δ P := fun m σ G F R H mb e i s Q q =>
  ha m σ G F R H mb e i s _ fun xs ds G1 R1 H1 e1 i1 s1 d1 p1 => ⟨by rw [d1.len]; exact (hl ds p1).1, fun p hp => q _ _ _ _ _ (e1.trans (Ex.new1 s1 hp)) i1 (s1.new hp) (.lst upd_same (d1.mono (Ex.new1 s1 hp))) (hl ds p1).2⟩
/-! tests -/
theorem et_test {c : Nat} (h : Ev K I c te Δ P) (hb : ∀ d, P d → ∃ b, d = .bl b ∧ B b) : EvT K I c (tTest te) Δ B := fun m σ G F R H mb e i s Q q =>
  h m σ G F R H mb e i s _ fun v d G1 R1 H1 e1 i1 s1 d1 p1 => by
    obtain ⟨b, rfl, hB⟩ := hb d p1
    cases d1
    exact ⟨b, rfl, q b G1 R1 H1 e1 i1 s1 hB⟩
theorem et_B {c : Nat} (h : Ev K I c te Δ P) (hb : ∀ d, P d → ∃ b, d = .bl b ∧ B b) : EvT K I c (tB te) Δ B := et_test h hb
theorem et_and {c1 c2 : Nat} (h1 : EvT K I c1 t Δ B1) (h2 : B1 true → EvT K I c2 u Δ B) (h3 : B1 false → B false) : EvT K I (c1 + c2) (tAnd t u) Δ B := fun m σ G F R H mb e i s Q q =>
  h1 m σ G F R H (by omega) e i s _ fun b G1 R1 H1 e1 i1 s1 p1 => by
    cases b with
    | true =>
      show u σ H1 Q
      exact h2 p1 _ σ G1 F R1 H1 (by omega) (e.mono e1) i1 s1 Q fun b G2 R2 H2 e2 i2 s2 p2 => q b G2 R2 H2 (e1.trans e2) (I.as2 i2) s2 p2
    | false =>
      show Q false H1
      exact q _ G1 R1 H1 e1 (I.mono (by omega) i1) s1 (h3 p1)
theorem et_or {c1 c2 : Nat} (h1 : EvT K I c1 t Δ B1) (h2 : B1 false → EvT K I c2 u Δ B) (h3 : B1 true → B true) : EvT K I (c1 + c2) (tOr t u) Δ B := fun m σ G F R H mb e i s Q q =>
  h1 m σ G F R H (by omega) e i s _ fun b G1 R1 H1 e1 i1 s1 p1 => by
    cases b with
    | false =>
      show u σ H1 Q
      exact h2 p1 _ σ G1 F R1 H1 (by omega) (e.mono e1) i1 s1 Q fun b G2 R2 H2 e2 i2 s2 p2 => q b G2 R2 H2 (e1.trans e2) (I.as2 i2) s2 p2
    | true =>
      show Q true H1
      exact q _ G1 R1 H1 e1 (I.mono (by omega) i1) s1 (h3 p1)
theorem et_not {c : Nat} (h1 : EvT K I c t Δ B1) (h : ∀ b, B1 b → B (!b)) : EvT K I c (tNot t) Δ B := fun m σ G F R H mb e i s Q q =>
  h1 m σ G F R H mb e i s _ fun b G1 R1 H1 e1 i1 s1 p1 => q _ G1 R1 H1 e1 i1 s1 (h b p1)
theorem ev_andV {c1 c2 : Nat} (h1 : Ev K I c1 ta Δ P1) (hb : ∀ d, P1 d → ∃ b, d = .bl b ∧ B b) (h2 : B true → Ev K I c2 tb Δ P) (h3 : B false → P (.bl false)) : Ev K I (c1 + c2) (tAndV ta tb) Δ P := fun m σ G F R H mb e i s Q q =>
  h1 m σ G F R H (by omega) e i s _ fun v d G1 R1 H1 e1 i1 s1 d1 p1 => by
    obtain ⟨b, rfl, hB⟩ := hb d p1
    cases d1
    refine ⟨b, rfl, ?_⟩
    cases b with
    | true =>
      show tb σ H1 Q
      exact h2 hB _ σ G1 F R1 H1 (by omega) (e.mono e1) i1 s1 Q fun v d G2 R2 H2 e2 i2 s2 d2 p2 => q v d G2 R2 H2 (e1.trans e2) (I.as2 i2) s2 d2 p2
    | false =>
      show Q (.bl false) H1
      exact q _ _ G1 R1 H1 e1 (I.mono (by omega) i1) s1 (.bl false) (h3 hB)
theorem ev_orV {c1 c2 : Nat} (h1 : Ev K I c1 ta Δ P1) (hb : ∀ d, P1 d → ∃ b, d = .bl b ∧ B b) (h2 : B false → Ev K I c2 tb Δ P) (h3 : B true → P (.bl true)) : Ev K I (c1 + c2) (tOrV ta tb) Δ P := fun m σ G F R H mb e i s Q q =>
  h1 m σ G F R H (by omega) e i s _ fun v d G1 R1 H1 e1 i1 s1 d1 p1 => by
    obtain ⟨b, rfl, hB⟩ := hb d p1
    cases d1
    refine ⟨b, rfl, ?_⟩
    cases b with
    | false =>
      show tb σ H1 Q
      exact h2 hB _ σ G1 F R1 H1 (by omega) (e.mono e1) i1 s1 Q fun v d G2 R2 H2 e2 i2 s2 d2 p2 => q v d G2 R2 H2 (e1.trans e2) (I.as2 i2) s2 d2 p2
    | true =>
      show Q (.bl true) H1
      exact q _ _ G1 R1 H1 e1 (I.mono (by omega) i1) s1 (.bl true) (h3 hB)
theorem ev_notV {c : Nat} (h1 : Ev K I c ta Δ P1) (hb : ∀ d, P1 d → ∃ b, d = .bl b ∧ P (.bl !b)) : Ev K I c (tNotV ta) Δ P := fun m σ G F R H mb e i s Q q =>
  h1 m σ G F R H mb e i s _ fun v d G1 R1 H1 e1 i1 s1 d1 p1 => by
    obtain ⟨b, rfl, hB⟩ := hb d p1
    cases d1
    exact ⟨b, rfl, q _ _ G1 R1 H1 e1 i1 s1 (.bl _) hB⟩
theorem ev_if {c1 c2 c3 : Nat} (h1 : EvT K I c1 t Δ B) (h2 : B true → Ev K I c2 ta Δ P) (h3 : B false → Ev K I c3 tb Δ P) : Ev K I (c1 + (c2 + c3)) (tIf t ta tb) Δ P := fun m σ G F R H mb e i s Q q =>
  h1 m σ G F R H (by omega) e i s _ fun b G1 R1 H1 e1 i1 s1 p1 => by
    cases b with
    | true =>
      show ta σ H1 Q
      exact h2 p1 _ σ G1 F R1 H1 (by omega) (e.mono e1) i1 s1 Q fun v d G2 R2 H2 e2 i2 s2 d2 p2 => q v d G2 R2 H2 (e1.trans e2) (I.mono (by omega) i2) s2 d2 p2
    | false =>
      show tb σ H1 Q
      exact h3 p1 _ σ G1 F R1 H1 (by omega) (e.mono e1) i1 s1 Q fun v d G2 R2 H2 e2 i2 s2 d2 p2 => q v d G2 R2 H2 (e1.trans e2) (I.mono (by omega) i2) s2 d2 p2
/-- a chain a op b op' c -/
theorem ev_chain {c1 c2 c3 : Nat} {r r' : R2} (ha : Ev K I c1 ta Δ P1) (hb : Ev K I c2 tb Δ P2) (hr : ∀ x y, P1 x → P2 y → OpD K r x y (fun d => ∃ b, d = .bl b ∧ B b)) (hc : B true → Ev K I c3 tc Δ P3) (hr' : ∀ y z, P2 y → P3 z → B true → OpD K r' y z P) (hf : B false → P (.bl false)) : Ev K I (c1 + c2 + c3) (tChain r r' ta tb tc) Δ P := fun m σ G F R H mb e i s Q q =>
  ha m σ G F R H (by omega) e i s _ fun x dx G1 R1 H1 e1 i1 s1 d1 p1 => hb _ σ G1 F R1 H1 (by omega) (e.mono e1) i1 s1 _ fun y dy G2 R2 H2 e2 i2 s2 d2 p2 =>
    hr dx dy p1 p2 x y G2 F R2 H2 s2 (d1.mono e2) d2 _ fun z d G3 H3 e3 s3 d3 p3 => by
      obtain ⟨b, rfl, hB⟩ := p3
      cases d3
      refine ⟨b, rfl, ?_⟩
      cases b with
      | true =>
        show tc σ H3 _
        exact hc hB _ σ G3 F R2 H3 (by omega) ((e.mono (e1.trans e2)).mono e3) i2 s3 _ fun w dw G4 R4 H4 e4 i4 s4 d4 p4 =>
          hr' dy dw p2 p4 hB y w G4 F R4 H4 s4 ((d2.mono e3).mono e4) d4 Q fun z d G5 H5 e5 s5 d5 p5 => q z d G5 R4 H5 ((((e1.trans e2).trans e3).trans e4).trans e5) (I.as3 i4) s5 d5 p5
      | false =>
        show Q (.bl false) H3
        exact q _ _ G3 R2 H3 ((e1.trans e2).trans e3) (I.mono (by omega) i2) s3 (.bl false) (hf hB)
/-! slices -/
theorem eo_none : EvO K I 0 tNoPart Δ (· = none) := fun m σ G F R H mb e i s Q q => q none G R H (Evl.Ex.refl _) i s rfl
theorem eo_some {c : Nat} (h : Ev K I c te Δ P) {O : Option Int → Prop} (hi : ∀ d, P d → ∃ n, d = .int n ∧ O (some n)) : EvO K I c (tPart te) Δ O := fun m σ G F R H mb e i s Q q =>
  h m σ G F R H mb e i s _ fun v d G1 R1 H1 e1 i1 s1 d1 p1 => by
    obtain ⟨n, rfl, hO⟩ := hi d p1
    cases d1
    exact ⟨n, rfl, q _ G1 R1 H1 e1 i1 s1 hO⟩
def SlD (K : PySem.W.Frag) (r : V → Option Int → Option Int → Hp → VK → Prop) (x : Dt) (lo hi : Option Int) (P : Dt → Prop) : Prop :=
  ∀ v G F R H, Sp3 G R F H → Den K G v x → ∀ Q : VK, (∀ z d G' H', Ex G G' → Sp3 G' R F H' → Den K G' z d → P d → Q z H') → r v lo hi H Q
theorem ev_sl {c1 c2 c3 : Nat} {r : V → Option Int → Option Int → Hp → VK → Prop} {tl th : TO} {O1 O2 : Option Int → Prop} (ha : Ev K I c1 te Δ P1) (hl : EvO K I c2 tl Δ O1) (hh : EvO K I c3 th Δ O2) (hr : ∀ x lo hi, P1 x → O1 lo → O2 hi → SlD K r x lo hi P) : Ev K I (c1 + c2 + c3) (tSl r te tl th) Δ P := fun m σ G F R H mb e i s Q q =>
  ha m σ G F R H (by omega) e i s _ fun x dx G1 R1 H1 e1 i1 s1 d1 p1 => hl _ σ G1 F R1 H1 (by omega) (e.mono e1) i1 s1 _ fun lo G2 R2 H2 e2 i2 s2 p2 => hh _ σ G2 F R2 H2 (by omega) ((e.mono e1).mono e2) i2 s2 _ fun hi G3 R3 H3 e3 i3 s3 p3 =>
    hr dx lo hi p1 p2 p3 x G3 F R3 H3 s3 ((d1.mono e2).mono e3) Q fun z d G4 H4 e4 s4 d4 p4 => q z d G4 R3 H4 (((e1.trans e2).trans e3).trans e4) (I.as3 i3) s4 d4 p4
end
/-! ### operations on ints -/
section
variable {K : PySem.W.Frag} {i j : Int} {x y : Dt}
theorem opd_I0 {g : Int → Int → V} {d : Dt} (h : ∀ G, Den K G (g i j) d) : OpD K (rI0 g) (.int i) (.int j) (· = d) := fun v w G F R H s hv hw Q q => by
  cases hv
  cases hw
  exact ⟨i, j, rfl, rfl, q _ d G H (Evl.Ex.refl _) s (h G) rfl⟩
theorem opd_I {C : Int → Int → Prop} {g : Int → Int → V} {d : Dt} (hc : C i j) (h : ∀ G, Den K G (g i j) d) : OpD K (rI C g) (.int i) (.int j) (· = d) := fun v w G F R H s hv hw Q q => by
  cases hv
  cases hw
  exact ⟨i, j, rfl, rfl, hc, q _ d G H (Evl.Ex.refl _) s (h G) rfl⟩
theorem opd_add : OpD K (rI0 fun i j => .int (i + j)) (.int i) (.int j) (· = .int (i + j)) := opd_I0 fun _ => .int _
theorem opd_sub : OpD K (rI0 fun i j => .int (i - j)) (.int i) (.int j) (· = .int (i - j)) := opd_I0 fun _ => .int _
theorem opd_mul (h : CMul i j) : OpD K (rI CMul fun i j => .int (i * j)) (.int i) (.int j) (· = .int (i * j)) := opd_I h fun _ => .int _
theorem opd_mod (h : 0 < j) : OpD K (rI (fun _ j => 0 < j) fun i j => .int (i % j)) (.int i) (.int j) (· = .int (i % j)) := opd_I h fun _ => .int _
theorem opd_fdiv (h : CDiv i j) : OpD K (rI CDiv fun i j => .int (i / j)) (.int i) (.int j) (· = .int (i / j)) := opd_I h fun _ => .int _
theorem opd_pow (h : CPow i j) : OpD K (rI CPow fun i j => .int (i ^ j.toNat)) (.int i) (.int j) (· = .int (i ^ j.toNat)) := opd_I h fun _ => .int _
theorem opd_lt : OpD K (rI0 fun i j => .bl (decide (i < j))) (.int i) (.int j) (· = .bl (decide (i < j))) := opd_I0 fun _ => .bl _
theorem opd_le : OpD K (rI0 fun i j => .bl (decide (i ≤ j))) (.int i) (.int j) (· = .bl (decide (i ≤ j))) := opd_I0 fun _ => .bl _
theorem opd_gt : OpD K (rI0 fun i j => .bl (decide (j < i))) (.int i) (.int j) (· = .bl (decide (j < i))) := opd_I0 fun _ => .bl _
theorem opd_ge : OpD K (rI0 fun i j => .bl (decide (j ≤ i))) (.int i) (.int j) (· = .bl (decide (j ≤ i))) := opd_I0 fun _ => .bl _
theorem und_neg : UnD K (rU fun i => .int (-i)) (.int i) (· = .int (-i)) := fun v G F R H s hv Q q => by
  cases hv
  exact ⟨i, rfl, q _ _ G H (Evl.Ex.refl _) s (.int _) rfl⟩
/-- scalars -/
def scalD : Dt → Dt → Bool
  | .int _, .int _ => true
  | .bl _, .bl _ => true
  | .str _, .str _ => true
  | _, _ => false
def eqS : Dt → Dt → Bool
  | .int i, .int j => decide (i = j)
  | .bl i, .bl j => decide (i = j)
  | .str i, .str j => decide (i = j)
  | _, _ => false
theorem opd_eq (h : scalD x y = true) : OpD K rEq x y (· = .bl (eqS x y)) := fun v w G F R H s hv hw Q q => by
  cases hv <;> cases hw <;> first | (cases h; done) | skip
  all_goals refine ⟨rfl, q _ _ G H (Evl.Ex.refl _) s (.bl _) ?_⟩
  all_goals (congr 1; simp only [eqS, V.bl.injEq, V.int.injEq, V.str.injEq])
theorem opd_ne (h : scalD x y = true) : OpD K rNe x y (· = .bl (!eqS x y)) := fun v w G F R H s hv hw Q q => by
  cases hv <;> cases hw <;> first | (cases h; done) | skip
  all_goals refine ⟨rfl, q _ _ G H (Evl.Ex.refl _) s (.bl _) ?_⟩
  all_goals (congr 1; simp only [eqS, V.bl.injEq, V.int.injEq, V.str.injEq])
def isN : Dt → Bool
  | .non => true
  | _ => false
theorem opd_isN {r : R2} (hr : r = fun x y H Q => y = V.non ∧ Q (.bl (decide (x = V.non))) H) (hx : ∀ v, x ≠ .cls v) : OpD K r x .non (· = .bl (isN x)) := by
  subst hr
  intro v w G F R H s hv hw Q q
  refine ⟨by cases hw; rfl, q _ _ G H (Evl.Ex.refl _) s (.bl _) ?_⟩
  cases hv <;> first | rfl | exact absurd rfl (hx _)
theorem opd_notN {r : R2} (hr : r = fun x y H Q => y = V.non ∧ Q (.bl (!decide (x = V.non))) H) (hx : ∀ v, x ≠ .cls v) : OpD K r x .non (· = .bl (!isN x)) := by
  subst hr
  intro v w G F R H s hv hw Q q
  refine ⟨by cases hw; rfl, q _ _ G H (Evl.Ex.refl _) s (.bl _) ?_⟩
  cases hv <;> first | rfl | exact absurd rfl (hx _)
end
end Fw
set_option Elab.async false
set_option linter.all false
set_option maxRecDepth 100000
set_option maxHeartbeats 4000000
namespace Fw
open PySem PySem.Spec PyProof.Rows L2
open Evl (Ex)
section
variable {K : PySem.W.Frag} {i j : Int} {x y : Dt} {xs ys : List Dt}
theorem Sp3.tupH {G R F H : Hp} (s : Sp3 G R F H) {a : Addr} {vs : List V} (h : G a = some (.tup vs)) : SqT K H a vs := Or.inl (Or.inl (s.g _ _ h))
theorem Sp3.lstH {G R F H : Hp} (s : Sp3 G R F H) {a : Addr} {vs : List V} (h : G a = some (.lst vs)) : SqL K H a vs := Or.inl (Or.inl (s.g _ _ h))
theorem ixN_lt {n : Nat} {i : Int} {k : Nat} (h : ixN n i = some k) : k < n := by
  unfold ixN at h
  split at h
  · split at h
    · cases h
      omega
    · cases h
  · split at h
    · cases h
      omega
    · cases h
theorem Dens.atI {G : Hp} {vs : List V} {ds : List Dt} (h : Dens K G vs ds) {i : Int} {d : Dt} (e : L2.atI ds i = some d) : ∃ v, L2.atI vs i = some v ∧ Den K G v d := by
  unfold L2.atI at e ⊢
  rw [h.len]
  cases q : ixN ds.length i with
  | none => rw [q] at e; cases e
  | some k =>
    rw [q] at e
    exact h.get e
theorem opd_ixL {d : Dt} (h : atI xs i = some d) : OpD K (rIxL K) (.lst xs) (.int i) (· = d) := fun v w G F R H s hv hw Q q => by
  cases hw
  cases hv with
  | lst ha hs =>
    obtain ⟨z, hz, dz⟩ := hs.atI h
    exact ⟨_, _, i, z, rfl, rfl, s.lstH ha, hz, q z d G H (Evl.Ex.refl _) s dz rfl⟩
theorem opd_ixT {d : Dt} (h : atI xs i = some d) : OpD K (rIxT K) (.tup xs) (.int i) (· = d) := fun v w G F R H s hv hw Q q => by
  cases hw
  cases hv with
  | tup ha hs =>
    obtain ⟨z, hz, dz⟩ := hs.atI h
    exact ⟨_, _, i, z, rfl, rfl, s.tupH ha, hz, q z d G H (Evl.Ex.refl _) s dz rfl⟩
/-- items of a list or a tuple -/
def seqD : Dt → Option (List Dt)
  | .lst xs => some xs
  | .tup xs => some xs
  | _ => none
theorem opd_ix {d : Dt} (hs : seqD x = some xs) (h : atI xs i = some d) : OpD K (rIx K) x (.int i) (· = d) := fun v w G F R H s hv hw Q q => by
  cases x with
  | lst zs => cases hs; exact Or.inl (opd_ixL h v w G F R H s hv hw Q q)
  | tup zs => cases hs; exact Or.inr (Or.inl (opd_ixT h v w G F R H s hv hw Q q))
  | _ => cases hs
/-- len -/
def rLenQ (K : PySem.W.Frag) : List V → Hp → VK → Prop := fun xs H Q => ∃ p ys, xs = [.ref p] ∧ (SqL K H p ys ∨ SqT K H p ys) ∧ Q (.int ys.length) H
theorem call_lenQ {X : Cx} : CallR X (.builtin "len") (rLenQ X.K) := call_len_seq
theorem cd_len (hs : seqD x = some xs) : CallD K (rLenQ K) [x] (· = .int (xs.length : Int)) := fun vs G F R H s hv Q q => by
  cases hv with
  | cons hx hn =>
    cases hn
    cases hx with
    | lst ha hd => cases hs; exact ⟨_, _, rfl, .inl (s.lstH ha), q _ _ G H (Evl.Ex.refl _) s (by rw [hd.len]; exact .int _) rfl⟩
    | tup ha hd => cases hs; exact ⟨_, _, rfl, .inr (s.tupH ha), q _ _ G H (Evl.Ex.refl _) s (by rw [hd.len]; exact .int _) rfl⟩
    | _ => cases hs
/-- list(x), tuple(x) -/
def rListQ (K : PySem.W.Frag) : List V → Hp → VK → Prop := fun xs H Q => ∃ p ys, xs = [.ref p] ∧ (SqL K H p ys ∨ SqT K H p ys) ∧ ∀ l, H l = none → Q (.ref l) (upd H l (.lst ys))
theorem call_listQ {X : Cx} : CallR X (.type "list") (rListQ X.K) := call_list_of
theorem cd_list (hs : seqD x = some xs) : CallD K (rListQ K) [x] (· = .lst xs) := fun vs G F R H s hv Q q => by
  cases hv with
  | cons hx hn =>
    cases hn
    cases hx with
    | lst ha hd => cases hs; exact ⟨_, _, rfl, .inl (s.lstH ha), fun l hl => q _ _ _ _ (Ex.new1 s hl) (s.new hl) (.lst upd_same (hd.mono (Ex.new1 s hl))) rfl⟩
    | tup ha hd => cases hs; exact ⟨_, _, rfl, .inr (s.tupH ha), fun l hl => q _ _ _ _ (Ex.new1 s hl) (s.new hl) (.lst upd_same (hd.mono (Ex.new1 s hl))) rfl⟩
    | _ => cases hs
def rTupleQ (K : PySem.W.Frag) : List V → Hp → VK → Prop := fun xs H Q => ∃ p ys, xs = [.ref p] ∧ ((SqL K H p ys ∧ ∀ l, H l = none → Q (.ref l) (upd H l (.tup ys))) ∨ (SqT K H p ys ∧ Q (.ref p) H))
theorem call_tupleQ {X : Cx} : CallR X (.type "tuple") (rTupleQ X.K) := call_tuple_of
theorem cd_tuple (hs : seqD x = some xs) : CallD K (rTupleQ K) [x] (· = .tup xs) := fun vs G F R H s hv Q q => by
  cases hv with
  | cons hx hn =>
    cases hn
    cases hx with
    | lst ha hd => cases hs; exact ⟨_, _, rfl, .inl ⟨s.lstH ha, fun l hl => q _ _ _ _ (Ex.new1 s hl) (s.new hl) (.tup upd_same (hd.mono (Ex.new1 s hl))) rfl⟩⟩
    | tup ha hd => cases hs; exact ⟨_, _, rfl, .inr ⟨s.tupH ha, q _ _ _ _ (Evl.Ex.refl _) s (.tup ha hd) rfl⟩⟩
    | _ => cases hs
/-! all, any, sum, max, min, abs -/
theorem cd_all {bs : List Bool} : CallD K (rAll K) [.lst (bs.map Dt.bl)] (· = .bl (bs.all id)) := fun vs G F R H s hv Q q => by
  cases hv with
  | cons hx hn =>
    cases hn
    cases hx with
    | lst ha hd =>
      have e := hd.bls
      subst e
      exact ⟨_, bs, rfl, s.lstH ha, q _ _ G H (Evl.Ex.refl _) s (.bl _) rfl⟩
theorem cd_any {bs : List Bool} : CallD K (rAny K) [.lst (bs.map Dt.bl)] (· = .bl (bs.any id)) := fun vs G F R H s hv Q q => by
  cases hv with
  | cons hx hn =>
    cases hn
    cases hx with
    | lst ha hd =>
      have e := hd.bls
      subst e
      exact ⟨_, bs, rfl, s.lstH ha, q _ _ G H (Evl.Ex.refl _) s (.bl _) rfl⟩
theorem cd_sum {ns : List Int} : CallD K (rSum K) [.lst (ns.map Dt.int)] (· = .int ns.sum) := fun vs G F R H s hv Q q => by
  cases hv with
  | cons hx hn =>
    cases hn
    cases hx with
    | lst ha hd =>
      have e := hd.ints
      subst e
      exact ⟨_, ns, rfl, s.lstH ha, q _ _ G H (Evl.Ex.refl _) s (.int _) rfl⟩
theorem cd_max {ns : List Int} (h0 : ns ≠ []) : CallD K (rMax K) [.lst (ns.map Dt.int)] (fun d => ∃ m, d = .int m ∧ m ∈ ns ∧ ∀ y ∈ ns, y ≤ m) := fun vs G F R H s hv Q q => by
  cases hv with
  | cons hx hn =>
    cases hn
    cases hx with
    | lst ha hd =>
      have e := hd.ints
      subst e
      exact ⟨_, ns, rfl, s.lstH ha, List.length_pos_iff.mpr h0, fun m h1 h2 => q _ _ G H (Evl.Ex.refl _) s (.int _) ⟨m, rfl, h1, h2⟩⟩
theorem cd_min {ns : List Int} (h0 : ns ≠ []) : CallD K (rMin K) [.lst (ns.map Dt.int)] (fun d => ∃ m, d = .int m ∧ m ∈ ns ∧ ∀ y ∈ ns, m ≤ y) := fun vs G F R H s hv Q q => by
  cases hv with
  | cons hx hn =>
    cases hn
    cases hx with
    | lst ha hd =>
      have e := hd.ints
      subst e
      exact ⟨_, ns, rfl, s.lstH ha, List.length_pos_iff.mpr h0, fun m h1 h2 => q _ _ G H (Evl.Ex.refl _) s (.int _) ⟨m, rfl, h1, h2⟩⟩
def rMin2 : List V → Hp → VK → Prop := fun xs H Q => ∃ i j, xs = [.int i, .int j] ∧ Q (.int (if j < i then j else i)) H
def rMax2 : List V → Hp → VK → Prop := fun xs H Q => ∃ i j, xs = [.int i, .int j] ∧ Q (.int (if j > i then j else i)) H
theorem call_min2Q {X : Cx} (hc : X.calm = true) : CallR X (.builtin "min") rMin2 := call_min2 hc
theorem call_max2Q {X : Cx} (hc : X.calm = true) : CallR X (.builtin "max") rMax2 := call_max2 hc
theorem cd_min2 : CallD K rMin2 [.int i, .int j] (· = .int (min i j)) := fun vs G F R H s hv Q q => by
  cases hv with
  | cons h1 h2 =>
    cases h2 with
    | cons h2 h3 =>
      cases h1
      cases h2
      cases h3
      refine ⟨i, j, rfl, q _ _ G H (Evl.Ex.refl _) s ?_ rfl⟩
      have e : (if j < i then j else i) = min i j := by
        rw [Int.min_def]
        split <;> split <;> omega
      rw [e]
      exact .int _
theorem cd_max2 : CallD K rMax2 [.int i, .int j] (· = .int (max i j)) := fun vs G F R H s hv Q q => by
  cases hv with
  | cons h1 h2 =>
    cases h2 with
    | cons h2 h3 =>
      cases h1
      cases h2
      cases h3
      refine ⟨i, j, rfl, q _ _ G H (Evl.Ex.refl _) s ?_ rfl⟩
      have e : (if j > i then j else i) = max i j := by
        rw [Int.max_def]
        split <;> split <;> omega
      rw [e]
      exact .int _
def rAbs : List V → Hp → VK → Prop := fun xs H Q => ∃ i, xs = [.int i] ∧ Q (.int (if i < 0 then -i else i)) H
theorem call_absQ {X : Cx} : CallR X (.builtin "abs") rAbs := call_abs
theorem cd_abs : CallD K rAbs [.int i] (· = .int (i.natAbs : Int)) := fun vs G F R H s hv Q q => by
  cases hv with
  | cons h1 h2 =>
    cases h1
    cases h2
    refine ⟨i, rfl, q _ _ G H (Evl.Ex.refl _) s ?_ rfl⟩
    have e : (if i < 0 then -i else i) = (i.natAbs : Int) := by
      split <;> omega
    rw [e]
    exact .int _
def rInt1 : List V → Hp → VK → Prop := fun xs H Q => (∃ i, xs = [.int i] ∧ Q (.int i) H) ∨ ∃ k, xs = [.bl k] ∧ Q (.int (if k then 1 else 0)) H
theorem call_int1Q {X : Cx} : CallR X (.type "int") rInt1 := call_int1
theorem cd_intB {b : Bool} : CallD K rInt1 [.bl b] (· = .int (if b then 1 else 0)) := fun vs G F R H s hv Q q => by
  cases hv with
  | cons h1 h2 =>
    cases h1
    cases h2
    exact .inr ⟨b, rfl, q _ _ G H (Evl.Ex.refl _) s (.int _) rfl⟩
def rStrI : List V → Hp → VK → Prop := fun xs H Q => ∃ i, xs = [.int i] ∧ i.natAbs.log2 < 1920 ∧ Q (.str (toString i)) H
theorem call_strI {X : Cx} : CallR X (.type "str") rStrI := call_str_int
theorem cd_strI (h : i.natAbs.log2 < 1920) : CallD K rStrI [.int i] (· = .str (toString i)) := fun vs G F R H s hv Q q => by
  cases hv with
  | cons h1 h2 =>
    cases h1
    cases h2
    exact ⟨i, rfl, h, q _ _ G H (Evl.Ex.refl _) s (.str _) rfl⟩
/-! isinstance -/
def tyN : Dt → String
  | .non => "NoneType"
  | .bl _ => "bool"
  | .int _ => "int"
  | .str _ => "str"
  | .lst _ => "list"
  | .tup _ => "tuple"
  | .dic => "dict"
  | .ptr _ => "?"
  | .cls _ => "?"
  | .scr _ => "?"
def plainD : Dt → Bool
  | .ptr _ => false
  | .cls _ => false
  | .scr _ => false
  | _ => true
theorem Den.ty {G R F H : Hp} {v : V} (s : Sp3 G R F H) (h : Den K G v x) (hp : plainD x = true) : TyX K H v (.type (tyN x)) := by
  cases h with
  | non => exact .base .non
  | bl b => exact .base (.bl b)
  | int i => exact .base (.int i)
  | str z => exact .base (.str z)
  | lst ha _ => exact .base (.lst (s.g _ _ ha))
  | tup ha _ => exact .base (.tup (s.g _ _ ha))
  | dic ha => exact .base (.dK (s.g _ _ ha))
  | ptr a => cases hp
  | cls w => cases hp
  | scr h => cases hp
theorem cd_isi {T : String} {b : Bool} (hp : plainD x = true) (hk : kitB (tyN x) T = some b) : CallD K (rIsi K) [x, .cls (.ty T)] (· = .bl b) := fun vs G F R H s hv Q q => by
  cases hv with
  | cons h1 h2 =>
    cases h2 with
    | cons h2 h3 =>
      cases h3
      cases h2
      exact ⟨_, _, _, _, b, rfl, .ty T, h1.ty s hp, kit_ty hk, q _ _ G H (Evl.Ex.refl _) s (.bl b) rfl⟩
/-- isinstance(x, (S, T)) -/
theorem cd_isiT {S T : String} {b c : Bool} (hp : plainD x = true) (h1 : kitB (tyN x) S = some b) (h2 : kitB (tyN x) T = some c) : CallD K (rIsiT K) [x, .tup [.cls (.ty S), .cls (.ty T)]] (· = .bl (b || c)) := fun vs G F R H s hv Q q => by
  cases hv with
  | cons hx hv =>
    cases hv with
    | cons ht hn =>
      cases hn
      cases ht with
      | tup ha hs =>
        cases hs with
        | cons k1 hs =>
          cases hs with
          | cons k2 hn =>
            cases hn
            cases k1
            cases k2
            refine ⟨_, _, _, _, [.type S, .type T], b || c, rfl, s.g _ _ ha, .cons (.ty S) (.cons (.ty T) .nil), hx.ty s hp, ?_, q _ _ G H (Evl.Ex.refl _) s (.bl _) rfl⟩
            refine kitAny_cons (kit_ty h1) (fun e => ?_) (fun e => by rw [e]; rfl)
            rw [e, Bool.false_or]
            refine kitAny_cons (kit_ty h2) (fun e => ?_) (fun e => e)
            rw [e]
            exact kitAny_nil
/-! + and * of lists and tuples, slices -/
theorem opd_cat (h : xs.length + ys.length ≤ sizeLine) : OpD K rCat (.lst xs) (.lst ys) (· = .lst (xs ++ ys)) := fun v w G F R H s hv hw Q q => by
  cases hv with
  | lst ha hx =>
    cases hw with
    | lst hb hy =>
      exact ⟨_, _, _, _, rfl, rfl, s.g _ _ ha, s.g _ _ hb, by rw [hx.len, hy.len]; exact h, fun p hp => q _ _ _ _ (Ex.new1 s hp) (s.new hp) (.lst upd_same ((hx.app hy).mono (Ex.new1 s hp))) rfl⟩
theorem opd_catT (h : xs.length + ys.length ≤ sizeLine) : OpD K (rCatA K) (.tup xs) (.tup ys) (· = .tup (xs ++ ys)) := fun v w G F R H s hv hw Q q => by
  cases hv with
  | @tup a us _ ha hx =>
    cases hw with
    | @tup b ws _ hb hy =>
      refine ⟨_, _, _, _, rfl, rfl, s.tupH ha, s.tupH hb, by rw [hx.len, hy.len]; exact h, fun e => ?_, fun e e2 => ?_, fun _ _ p hp => q _ _ _ _ (Ex.new1 s hp) (s.new hp) (.tup upd_same ((hx.app hy).mono (Ex.new1 s hp))) rfl⟩
      · subst e
        cases hx
        exact q _ _ G H (Evl.Ex.refl _) s (.tup hb hy) rfl
      · subst e2
        cases hy
        rw [List.append_nil] at q
        exact q _ _ G H (Evl.Ex.refl _) s (.tup ha hx) rfl
theorem opd_rep (h0 : -(2 ^ 63) ≤ i) (h1 : i < 2 ^ 63) (h : xs.length * i.toNat ≤ sizeLine) : OpD K rRep (.lst xs) (.int i) (· = .lst (List.replicate i.toNat xs).flatten) := fun v w G F R H s hv hw Q q => by
  cases hv with
  | lst ha hx =>
    cases hw
    exact ⟨_, i, _, rfl, rfl, s.g _ _ ha, h0, h1, by rw [hx.len]; exact h, fun p hp => q _ _ _ _ (Ex.new1 s hp) (s.new hp) (.lst upd_same ((hx.rep _).mono (Ex.new1 s hp))) rfl⟩
theorem opd_repT (hn : xs ≠ []) (h0 : 2 ≤ i) (h1 : i ≤ 1000) (h : xs.length ≤ 1000) : OpD K (rRepT K) (.tup xs) (.int i) (· = .tup (List.replicate i.toNat xs).flatten) := fun v w G F R H s hv hw Q q => by
  cases hv with
  | tup ha hx =>
    cases hw
    refine ⟨_, i, _, rfl, rfl, s.tupH ha, fun e => ?_, h0, h1, by rw [hx.len]; exact h, fun p hp => q _ _ _ _ (Ex.new1 s hp) (s.new hp) (.tup upd_same ((hx.rep _).mono (Ex.new1 s hp))) rfl⟩
    subst e
    cases hx
    exact hn rfl
def cutD (xs : List Dt) (lo hi : Option Int) : List Dt := (xs.drop (HT.sIx xs.length 0 lo)).take (HT.sIx xs.length xs.length hi - HT.sIx xs.length 0 lo)
theorem Dens.cut {G : Hp} {vs : List V} {lo hi : Option Int} (h : Dens K G vs xs) : Dens K G (cutV vs lo hi) (cutD xs lo hi) := by
  unfold cutV cutD
  rw [h.len]
  exact (h.drop _).take _
theorem sld_tup {lo hi : Option Int} : SlD K (rSlA K) (.tup xs) lo hi (· = .tup (cutD xs lo hi)) := fun v G F R H s hv Q q => by
  cases hv with
  | @tup a us _ ha hx =>
    refine ⟨_, _, rfl, s.tupH ha, fun e => ?_, fun _ p hp => q _ _ _ _ (Ex.new1 s hp) (s.new hp) (.tup upd_same (hx.cut.mono (Ex.new1 s hp))) rfl⟩
    have e2 : cutD xs lo hi = xs := by
      unfold cutD
      rw [← hx.len, e.1, e.2, Nat.sub_zero, hx.len]
      exact List.take_length
    rw [e2] at q
    exact q _ _ G H (Evl.Ex.refl _) s (.tup ha hx) rfl
theorem sld_lst {lo hi : Option Int} : SlD K (rSlL K) (.lst xs) lo hi (· = .lst (cutD xs lo hi)) := fun v G F R H s hv Q q => by
  cases hv with
  | @lst a us _ ha hx =>
    exact ⟨_, _, rfl, s.lstH ha, fun p hp => q _ _ _ _ (Ex.new1 s hp) (s.new hp) (.lst upd_same (hx.cut.mono (Ex.new1 s hp))) rfl⟩
end
end Fw
set_option Elab.async false
set_option linter.all false
set_option maxRecDepth 100000
set_option maxHeartbeats 4000000
namespace Fw
open PySem PySem.Spec PyProof.Rows L2
open Evl (Ex)
inductive All2 {α β : Type} (S : α → β → Prop) : List α → List β → Prop
  | nil : All2 S [] []
  | cons {a : α} {b : β} {as : List α} {bs : List β} : S a b → All2 S as bs → All2 S (a :: as) (b :: bs)
theorem All2.len {α β : Type} {S : α → β → Prop} {as : List α} {bs : List β} (h : All2 S as bs) : as.length = bs.length := by
  induction h with
  | nil => rfl
  | cons _ _ ih => rw [List.length_cons, List.length_cons, ih]
theorem All2.snoc {α β : Type} {S : α → β → Prop} {as : List α} {bs : List β} {a : α} {b : β} (h : All2 S as bs) (e : S a b) : All2 S (as ++ [a]) (bs ++ [b]) := by
  induction h with
  | nil => exact .cons e .nil
  | cons x _ ih => exact .cons x ih
theorem All2.fn {α β : Type} {S : α → β → Prop} {f : α → β} {as : List α} {bs : List β} (h : All2 S as bs) (hf : ∀ a b, a ∈ as → S a b → b = f a) : bs = as.map f := by
  induction h with
  | nil => rfl
  | cons x _ ih => rw [List.map_cons, ← hf _ _ List.mem_cons_self x, ← ih fun a b ha => hf a b (List.mem_cons_of_mem _ ha)]
theorem All2.mem {α β : Type} {S : α → β → Prop} {as : List α} {bs : List β} (h : All2 S as bs) : ∀ b ∈ bs, ∃ a ∈ as, S a b := by
  induction h with
  | nil => intro b hb; cases hb
  | cons x _ ih =>
    intro b hb
    rcases List.mem_cons.mp hb with e | e
    · subst e
      exact ⟨_, List.mem_cons_self, x⟩
    · obtain ⟨a, ha, hs⟩ := ih b e
      exact ⟨a, List.mem_cons_of_mem _ ha, hs⟩
/-! ### what is walked -/
structure ItD (K : PySem.W.Frag) (J : It) (its : List Dt) (G : Hp) : Prop where
  go : ∀ i G1 R F H, Ex G G1 → Sp3 G1 R F H → i < its.length → J.go i H
  yld : ∀ i G1 R F H d, Ex G G1 → Sp3 G1 R F H → its[i]? = some d → ∀ x H', J.yld i H x H' → ∃ G2, Ex G1 G2 ∧ Sp3 G2 R F H' ∧ Den K G2 x d
  stop : ∀ i G1 R F H, Ex G G1 → Sp3 G1 R F H → i = its.length → J.stop i H
def EvI (K : PySem.W.Frag) (I : Res) (c : Nat) (wi : TI) (Δ : Sl) (P : List Dt → Prop) : Prop :=
  ∀ m σ G F R H, m + c ≤ BIG → EnvD K G σ Δ → I.p m R → Sp3 G R F H → ∀ Rr : It → Hp → Prop, (∀ J its G' R' H', Ex G G' → I.p (m + c) R' → Sp3 G' R' F H' → ItD K J its G' → P its → Rr J H') → wi σ H Rr
section
variable {K : PySem.W.Frag} {I : Res} {Δ : Sl} {ta tb tc te : TE} {t u : TT} {P P1 P2 P3 : Dt → Prop} {B B1 B2 : Bool → Prop} {Ps : List Dt → Prop}
theorem itd_list {G : Hp} {a : Addr} {vs : List V} {ds : List Dt} (h : G a = some (.lst vs)) (hd : Dens K G vs ds) : ItD K (Itl K a) ds G := by
  refine ⟨fun i G1 R F H e s hi => ?_, fun i G1 R F H d e s hi x H' y => ?_, fun i G1 R F H e s hi => ?_⟩
  · obtain ⟨v, hv, _⟩ := hd.get (List.getElem?_eq_getElem hi)
    exact ⟨vs, v, s.lstH (e _ _ h), hv⟩
  · obtain ⟨rfl, hy⟩ := y
    obtain ⟨v, hv, dv⟩ := hd.get hi
    have e2 := hy vs (s.lstH (e _ _ h))
    rw [hv] at e2
    cases e2
    exact ⟨G1, Evl.Ex.refl _, s, dv.mono e⟩
  · exact ⟨vs, s.lstH (e _ _ h), by rw [hd.len]; omega⟩
theorem itd_tup {G : Hp} {a : Addr} {vs : List V} {ds : List Dt} (h : G a = some (.tup vs)) (hd : Dens K G vs ds) : ItD K (Itt K a) ds G := by
  refine ⟨fun i G1 R F H e s hi => ?_, fun i G1 R F H d e s hi x H' y => ?_, fun i G1 R F H e s hi => ?_⟩
  · obtain ⟨v, hv, _⟩ := hd.get (List.getElem?_eq_getElem hi)
    exact ⟨vs, v, s.tupH (e _ _ h), hv⟩
  · obtain ⟨rfl, hy⟩ := y
    obtain ⟨v, hv, dv⟩ := hd.get hi
    have e2 := hy vs (s.tupH (e _ _ h))
    rw [hv] at e2
    cases e2
    exact ⟨G1, Evl.Ex.refl _, s, dv.mono e⟩
  · exact ⟨vs, s.tupH (e _ _ h), by rw [hd.len]; omega⟩
def rngD (lo : Int) (n : Nat) : List Dt := (List.range n).map fun k => Dt.int (lo + (k : Nat))
theorem rngD_len (lo : Int) (n : Nat) : (rngD lo n).length = n := by unfold rngD; rw [List.length_map, List.length_range]
theorem itd_rng {G : Hp} {lo : Int} {n : Nat} : ItD K (Itr lo n) (rngD lo n) G := by
  refine ⟨fun i G1 R F H e s hi => ?_, fun i G1 R F H d e s hi x H' y => ?_, fun i G1 R F H e s hi => ?_⟩
  · rw [rngD_len] at hi
    exact hi
  · obtain ⟨rfl, rfl⟩ := y
    unfold rngD at hi
    rw [List.getElem?_map] at hi
    obtain ⟨k, e1, e2⟩ := Option.map_eq_some_iff.mp hi
    have e3 : k = i := by
      have hl := (List.getElem?_eq_some_iff.mp e1).1
      rw [List.length_range] at hl
      rw [List.getElem?_range hl] at e1
      exact (Option.some.inj e1).symm
    subst e3
    subst e2
    exact ⟨G1, Evl.Ex.refl _, s, .int _⟩
  · rw [rngD_len] at hi
    exact Nat.le_of_eq hi.symm
theorem ei_list {c : Nat} (h : Ev K I c te Δ P) (hp : ∀ d, P d → ∃ xs, d = .lst xs ∧ Ps xs) : EvI K I c (iList K te) Δ Ps := fun m σ G F R H mb e i s Q q =>
  h m σ G F R H mb e i s _ fun v d G1 R1 H1 e1 i1 s1 d1 p1 => by
    obtain ⟨xs, rfl, hP⟩ := hp d p1
    cases d1 with
    | lst ha hd => exact ⟨_, rfl, ⟨_, s1.lstH ha⟩, q _ xs G1 R1 H1 e1 i1 s1 (itd_list ha hd) hP⟩
theorem ei_tup {c : Nat} (h : Ev K I c te Δ P) (hp : ∀ d, P d → ∃ xs, d = .tup xs ∧ Ps xs) : EvI K I c (iTup K te) Δ Ps := fun m σ G F R H mb e i s Q q =>
  h m σ G F R H mb e i s _ fun v d G1 R1 H1 e1 i1 s1 d1 p1 => by
    obtain ⟨xs, rfl, hP⟩ := hp d p1
    cases d1 with
    | tup ha hd => exact ⟨_, rfl, ⟨_, s1.tupH ha⟩, q _ xs G1 R1 H1 e1 i1 s1 (itd_tup ha hd) hP⟩
theorem ei_rng1 {c : Nat} {tr : TA} {Qs : List Dt → Prop} (h : EvA K I c tr Δ Qs) (hp : ∀ ds, Qs ds → ∃ n : Int, ds = [.int n] ∧ -(2 ^ 62) ≤ n ∧ n < 2 ^ 62 ∧ Ps (rngD 0 n.toNat)) : EvI K I c (iRng1 tr) Δ Ps := fun m σ G F R H mb e i s Q q =>
  h m σ G F R H mb e i s _ fun vs ds G1 R1 H1 e1 i1 s1 d1 p1 => by
    obtain ⟨n, rfl, h1, h2, hP⟩ := hp ds p1
    cases d1 with
    | cons dn dnil =>
      cases dnil
      cases dn
      exact ⟨n, rfl, h1, h2, q _ _ G1 R1 H1 e1 i1 s1 itd_rng hP⟩
theorem ei_rng2 {c : Nat} {tr : TA} {Qs : List Dt → Prop} (h : EvA K I c tr Δ Qs) (hp : ∀ ds, Qs ds → ∃ m n : Int, ds = [.int m, .int n] ∧ (-(2 ^ 62) ≤ m ∧ m < 2 ^ 62 ∧ -(2 ^ 62) ≤ n ∧ n < 2 ^ 62) ∧ Ps (rngD m (n - m).toNat)) : EvI K I c (iRng2 tr) Δ Ps := fun m σ G F R H mb e i s Q q =>
  h m σ G F R H mb e i s _ fun vs ds G1 R1 H1 e1 i1 s1 d1 p1 => by
    obtain ⟨m, n, rfl, h1, hP⟩ := hp ds p1
    cases d1 with
    | cons dm dn =>
      cases dn with
      | cons dn dnil =>
        cases dnil
        cases dn
        cases dm
        exact ⟨m, n, rfl, h1, q _ _ G1 R1 H1 e1 i1 s1 itd_rng hP⟩
/-! pairs -/
def zipD : List Dt → List Dt → List Dt
  | x :: xs, y :: ys => .tup [x, y] :: zipD xs ys
  | _, _ => []
theorem zipD_len : ∀ xs ys : List Dt, (zipD xs ys).length = min xs.length ys.length
  | [], _ => by simp [zipD]
  | _ :: _, [] => by simp [zipD]
  | x :: xs, y :: ys => by
    show (zipD xs ys).length + 1 = min (xs.length + 1) (ys.length + 1)
    rw [zipD_len xs ys]
    omega
theorem zipD_get : ∀ {xs ys : List Dt} {i : Nat} {d : Dt}, (zipD xs ys)[i]? = some d → ∃ x y, xs[i]? = some x ∧ ys[i]? = some y ∧ d = .tup [x, y]
  | [], _, _, _, h => by simp [zipD] at h
  | _ :: _, [], _, _, h => by simp [zipD] at h
  | x :: xs, y :: ys, 0, d, h => ⟨x, y, rfl, rfl, (Option.some.inj h).symm⟩
  | x :: xs, y :: ys, i + 1, d, h => zipD_get (xs := xs) (ys := ys) (i := i) h
theorem itd_zipT {G : Hp} {a b : Addr} {vs ws : List V} {xs ys : List Dt} (ha : G a = some (.tup vs)) (hb : G b = some (.tup ws)) (dx : Dens K G vs xs) (dy : Dens K G ws ys) : ItD K (RZ.ItzT K a b) (zipD xs ys) G := by
  refine ⟨fun i G1 R F H e s hi => ?_, fun i G1 R F H d e s hi x H' y => ?_, fun i G1 R F H e s hi => ?_⟩
  · rw [zipD_len] at hi
    obtain ⟨v, hv, _⟩ := dx.get (List.getElem?_eq_getElem (show i < xs.length by omega))
    obtain ⟨w, hw, _⟩ := dy.get (List.getElem?_eq_getElem (show i < ys.length by omega))
    exact ⟨vs, ws, v, w, s.tupH (e _ _ ha), s.tupH (e _ _ hb), hv, hw⟩
  · obtain ⟨T, p, q, rfl, nT, rfl, f1, f2⟩ := y
    obtain ⟨c1, c2, e1, e2, rfl⟩ := zipD_get hi
    obtain ⟨v, hv, dv⟩ := dx.get e1
    obtain ⟨w, hw, dw⟩ := dy.get e2
    have z1 := f1 vs (s.tupH (e _ _ ha))
    have z2 := f2 ws (s.tupH (e _ _ hb))
    rw [hv] at z1
    rw [hw] at z2
    cases z1
    cases z2
    exact ⟨_, Ex.new1 s nT, s.new nT, .tup upd_same (.cons ((dv.mono e).mono (Ex.new1 s nT)) (.cons ((dw.mono e).mono (Ex.new1 s nT)) .nil))⟩
  · rw [zipD_len] at hi
    refine ⟨vs, ws, s.tupH (e _ _ ha), s.tupH (e _ _ hb), ?_⟩
    rw [dx.len, dy.len]
    omega
theorem itd_zipL {G : Hp} {a b : Addr} {vs ws : List V} {xs ys : List Dt} (ha : G a = some (.lst vs)) (hb : G b = some (.lst ws)) (dx : Dens K G vs xs) (dy : Dens K G ws ys) : ItD K (Itz K a b) (zipD xs ys) G := by
  refine ⟨fun i G1 R F H e s hi => ?_, fun i G1 R F H d e s hi x H' y => ?_, fun i G1 R F H e s hi => ?_⟩
  · rw [zipD_len] at hi
    obtain ⟨v, hv, _⟩ := dx.get (List.getElem?_eq_getElem (show i < xs.length by omega))
    obtain ⟨w, hw, _⟩ := dy.get (List.getElem?_eq_getElem (show i < ys.length by omega))
    exact ⟨vs, ws, v, w, s.lstH (e _ _ ha), s.lstH (e _ _ hb), hv, hw⟩
  · obtain ⟨T, p, q, rfl, nT, rfl, f1, f2⟩ := y
    obtain ⟨c1, c2, e1, e2, rfl⟩ := zipD_get hi
    obtain ⟨v, hv, dv⟩ := dx.get e1
    obtain ⟨w, hw, dw⟩ := dy.get e2
    have z1 := f1 vs (s.lstH (e _ _ ha))
    have z2 := f2 ws (s.lstH (e _ _ hb))
    rw [hv] at z1
    rw [hw] at z2
    cases z1
    cases z2
    exact ⟨_, Ex.new1 s nT, s.new nT, .tup upd_same (.cons ((dv.mono e).mono (Ex.new1 s nT)) (.cons ((dw.mono e).mono (Ex.new1 s nT)) .nil))⟩
  · rw [zipD_len] at hi
    refine ⟨vs, ws, s.lstH (e _ _ ha), s.lstH (e _ _ hb), ?_⟩
    rw [dx.len, dy.len]
    omega
theorem ei_zip {c : Nat} {tr : TA} {Qs : List Dt → Prop} (h : EvA K I c tr Δ Qs) (hp : ∀ ds, Qs ds → ∃ xs ys, (ds = [.tup xs, .tup ys] ∨ ds = [.lst xs, .lst ys]) ∧ Ps (zipD xs ys)) : EvI K I c (RZ.iZipA K tr) Δ Ps := fun m σ G F R H mb e i s Q q =>
  h m σ G F R H mb e i s _ fun vs ds G1 R1 H1 e1 i1 s1 d1 p1 => by
    obtain ⟨xs, ys, hds, hP⟩ := hp ds p1
    rcases hds with rfl | rfl
    · cases d1 with
      | cons da db =>
        cases db with
        | cons db dnil =>
          cases dnil
          cases da with
          | tup ha dx =>
            cases db with
            | tup hb dy => exact ⟨_, _, _, _, rfl, .inr ⟨s1.tupH ha, s1.tupH hb, q _ _ G1 R1 H1 e1 i1 s1 (itd_zipT ha hb dx dy) hP⟩⟩
    · cases d1 with
      | cons da db =>
        cases db with
        | cons db dnil =>
          cases dnil
          cases da with
          | lst ha dx =>
            cases db with
            | lst hb dy => exact ⟨_, _, _, _, rfl, .inl ⟨s1.lstH ha, s1.lstH hb, q _ _ G1 R1 H1 e1 i1 s1 (itd_zipL ha hb dx dy) hP⟩⟩
/-! ### targets -/
def GD (K : PySem.W.Frag) (g : TG) (js : List Nat) (d : Dt) (f : Sl → Sl) : Prop :=
  ∀ σ Δ G R F H v, EnvD K G σ Δ → Sp3 G R F H → Den K G v d → ∀ Q : L2.St → Hp → Prop, (∀ σ', EnvD K G σ' (f Δ) → (∀ vs, (∀ j ∈ js, j ∈ vs) → wipe σ' vs = wipe σ vs) → Q σ' H) → g v σ H Q
theorem gd_name {j : Nat} {d : Dt} : GD K (gName j) [j] d (fun Δ => Δ.set j (some d)) := fun σ Δ G R F H v e s hd Q q =>
  q _ (e.set hd) fun vs hv => wipe_set_mem (hv j List.mem_cons_self)
theorem gd_pair {j k : Nat} {x y : Dt} : GD K (gTup K 2 (gCons (gName j) (gCons (gName k) gNil))) [j, k] (.tup [x, y]) (fun Δ => (Δ.set j (some x)).set k (some y)) := fun σ Δ G R F H v e s hd Q q => by
  cases hd with
  | tup ha hs =>
    cases hs with
    | cons hx hs =>
      cases hs with
      | cons hy hn =>
        cases hn
        refine ⟨_, _, rfl, s.tupH ha, rfl, _, _, rfl, _, _, rfl, rfl, q _ ((e.set hx).set hy) fun vs hv => ?_⟩
        rw [wipe_set_mem (hv k (List.mem_cons_of_mem _ List.mem_cons_self)), wipe_set_mem (hv j List.mem_cons_self)]
/-! ### list comprehensions -/
theorem ev_lc {c0 ct ce n : Nat} {wi : TI} {g : TG} {tt : TT} {vs js : List Nat} {Pi : List Dt → Prop} (hi : EvI K I c0 wi Δ Pi) (hl : ∀ its, Pi its → its.length ≤ n) (hn : n ≤ sizeLine) (hj : ∀ j ∈ js, j ∈ vs) (f : Dt → Sl → Sl) (St : Dt → Option Dt → Prop)
    (hs : ∀ its d, Pi its → d ∈ its → GD K g js d (f d) ∧ ∃ Bt : Bool → Prop, EvT K I ct tt (f d (wipeD Δ vs)) Bt ∧ (Bt false → St d none) ∧ (Bt true → Ev K I ce te (f d (wipeD Δ vs)) (fun e => St d (some e))))
    (hP : ∀ its os, Pi its → All2 St its os → P (.lst (os.filterMap id))) : Ev K I (c0 + n * (ct + ce)) (tLc wi g tt te vs) Δ P := fun m σ G F R H mb e i s Q q =>
  hi m σ G F R H (by omega) e i s _ fun J its G1 R1 H1 e1 i1 s1 it pi => fun D hD => by
    have hFD : F D = none := Ex.no s1.f hD
    have hln := hl its pi
    have hmul : ∀ k, k ≤ its.length → k * (ct + ce) ≤ n * (ct + ce) := fun k hk => Nat.mul_le_mul_right _ (Nat.le_trans hk hln)
    refine ⟨fun k x H2 => x = its.length - k ∧ k ≤ its.length ∧ ∃ G2 R2 os acc, Ex G1 G2 ∧ I.p (m + c0 + k * (ct + ce)) R2 ∧ Sp3 G2 R2 (upd F D (.lst acc)) H2 ∧ All2 St (its.take k) os ∧ Dens K G2 acc (os.filterMap id),
      ⟨its.length, rfl, Nat.zero_le _, G1, R1, [], [], Evl.Ex.refl _, by rw [Nat.zero_mul]; exact i1, s1.newF hD, .nil, .nil⟩, ?_⟩
    rintro k x H2 ⟨rfl, hk, G2, R2, os, acc, e2, i2, s2, ao, da⟩
    by_cases hlt : k < its.length
    · refine .inr ⟨it.go k G2 R2 _ H2 e2 s2 hlt, fun H3 => ∃ G3 R3 os acc, Ex G1 G3 ∧ I.p (m + c0 + (k + 1) * (ct + ce)) R3 ∧ Sp3 G3 R3 (upd F D (.lst acc)) H3 ∧ All2 St (its.take (k + 1)) os ∧ Dens K G3 acc (os.filterMap id), fun H3 h3 => ?_, fun x H3 y => ?_⟩
      · exact ⟨its.length - (k + 1), by omega, rfl, hlt, h3⟩
      · have hd : its[k]? = some its[k] := List.getElem?_eq_getElem hlt
        have hm : its[k] ∈ its := List.getElem_mem hlt
        have hk1 := hmul (k + 1) hlt
        rw [Nat.succ_mul] at hk1
        obtain ⟨G3, e3, s3, dx⟩ := it.yld k G2 R2 _ H2 _ e2 s2 hd x H3 y
        obtain ⟨gd, Bt, ht, hf, htr⟩ := hs its _ pi hm
        have tk : its.take (k + 1) = its.take k ++ [its[k]] := by rw [List.take_add_one, hd]; rfl
        have env3 : EnvD K G3 (wipe σ vs) (wipeD Δ vs) := (((e.mono e1).mono e2).mono e3).wipe vs
        refine gd (wipe σ vs) (wipeD Δ vs) G3 R2 _ H3 x env3 s3 dx _ fun σ' env' hw => ⟨(hw vs hj).trans (wipe_wipe fun v h => h), ?_⟩
        refine ht _ σ' G3 _ R2 H3 (by omega) env' i2 s3 _ fun b G4 R4 H4 e4 i4 s4 pb => ?_
        cases b with
        | false =>
          show ∃ G3 R3 os acc, _
          refine ⟨G4, R4, os ++ [none], acc, ((e2.trans e3).trans e4), I.mono (by rw [Nat.succ_mul]; omega) i4, s4, ?_, ?_⟩
          · rw [tk]
            exact ao.snoc (hf pb)
          · rw [List.filterMap_append]
            show Dens K G4 acc (os.filterMap id ++ [])
            rw [List.append_nil]
            exact (da.mono e3).mono e4
        | true =>
          show te σ' H4 _
          refine htr pb _ σ' G4 _ R4 H4 (by omega) (env'.mono e4) i4 s4 _ fun y dy G5 R5 H5 e5 i5 s5 d5 p5 => ?_
          have hacc : acc.length < sizeLine := by
            have h1 := da.len
            have h2 := List.length_filterMap_le id os
            have h3 := ao.len
            rw [List.length_take] at h3
            omega
          refine ⟨acc, s5.f D _ upd_same, hacc, G5, R5, os ++ [some dy], acc ++ [y], (((e2.trans e3).trans e4).trans e5), I.mono (by rw [Nat.succ_mul]; omega) i5, s5.setF, ?_, ?_⟩
          · rw [tk]
            exact ao.snoc p5
          · rw [List.filterMap_append]
            exact (((da.mono e3).mono e4).mono e5).app (.cons d5 .nil)
    · have ek : k = its.length := by omega
      subst ek
      refine .inl ⟨it.stop _ G2 R2 _ H2 e2 s2 rfl, ?_⟩
      rw [List.take_length] at ao
      have hk1 := hmul its.length (Nat.le_refl _)
      exact q _ _ _ R2 H2 ((e1.trans e2).trans s2.giveEx) (I.mono (by omega) i2) (s2.give hFD) (.lst upd_same (da.mono s2.giveEx)) (hP its os pi ao)
theorem et_yes : EvT K I 0 tYes Δ (· = true) := fun m σ G F R H mb e i s Q q => q true G R H (Evl.Ex.refl _) i s rfl
end
end Fw
set_option Elab.async false
set_option linter.all false
set_option maxRecDepth 100000
set_option maxHeartbeats 4000000
namespace Fw
open PySem PySem.Spec PyProof.Rows L2
open Evl (Ex)
/-! ### statements -/
def Sv (K : PySem.W.Frag) (I : Res) (c : Nat) (t : TS) (Δ : Sl) (N : Sl → Prop) (Rt : Dt → Prop) : Prop :=
  ∀ m σ G F R H, m + c ≤ BIG → EnvD K G σ Δ → I.p m R → Sp3 G R F H → ∀ D : Ends,
    (∀ Δ' σ' G' R' H', N Δ' → Ex G G' → EnvD K G' σ' Δ' → I.p (m + c) R' → Sp3 G' R' F H' → D.nx σ' H') →
    (∀ v d G' R' H', Ex G G' → I.p (m + c) R' → Sp3 G' R' F H' → Den K G' v d → Rt d → D.rt v H') → t D σ H
section
variable {K : PySem.W.Frag} {I : Res} {Δ : Sl} {ta tb tc te : TE} {t u : TS} {tt : TT} {P P1 P2 P3 : Dt → Prop} {B B1 B2 : Bool → Prop} {Ps : List Dt → Prop} {N N1 : Sl → Prop} {Rt Rt1 : Dt → Prop}
theorem Sv.le {c c' : Nat} (h : Sv K I c t Δ N Rt) (hc : c ≤ c') : Sv K I c' t Δ N Rt := fun m σ G F R H mb e i s D q r =>
  h m σ G F R H (by omega) e i s D (fun Δ' σ' G' R' H' n e' en ii ss => q Δ' σ' G' R' H' n e' en (I.mono (by omega) ii) ss) (fun v d G' R' H' e' ii ss dd p => r v d G' R' H' e' (I.mono (by omega) ii) ss dd p)
theorem Sv.imp {c : Nat} (h : Sv K I c t Δ N Rt) (hn : ∀ x, N x → N1 x) (hr : ∀ x, Rt x → Rt1 x) : Sv K I c t Δ N1 Rt1 := fun m σ G F R H mb e i s D q r =>
  h m σ G F R H mb e i s D (fun Δ' σ' G' R' H' n e' en ii ss => q Δ' σ' G' R' H' (hn _ n) e' en ii ss) (fun v d G' R' H' e' ii ss dd p => r v d G' R' H' e' ii ss dd (hr _ p))
theorem sv_next : Sv K I 0 tNext Δ (· = Δ) Rt := fun m σ G F R H mb e i s D q r => q Δ σ G R H rfl (Evl.Ex.refl _) e i s
theorem sv_ret {c : Nat} (h : Ev K I c te Δ Rt) : Sv K I c (tRet te) Δ N Rt := fun m σ G F R H mb e i s D q r => h m σ G F R H mb e i s _ fun v d G' R' H' e' ii ss dd p => r v d G' R' H' e' ii ss dd p
theorem sv_retN (h : Rt .non) : Sv K I 0 tRetN Δ N Rt := fun m σ G F R H mb e i s D q r => r _ _ G R H (Evl.Ex.refl _) i s .non h
theorem sv_set {c j : Nat} (h : Ev K I c te Δ P) : Sv K I c (tAsg te (gName j)) Δ (fun Δ' => ∃ d, P d ∧ Δ' = Δ.set j (some d)) Rt := fun m σ G F R H mb e i s D q r =>
  h m σ G F R H mb e i s _ fun v d G' R' H' e' ii ss dd p => q _ _ G' R' H' ⟨d, p, rfl⟩ e' ((e.mono e').set dd) ii ss
theorem sv_drop {c : Nat} (h : Ev K I c te Δ P) : Sv K I c (tDrop te) Δ (· = Δ) Rt := fun m σ G F R H mb e i s D q r =>
  h m σ G F R H mb e i s _ fun v d G' R' H' e' ii ss dd p => q _ _ G' R' H' rfl e' (e.mono e') ii ss
theorem sv_par {c j k : Nat} {tr : TA} (h : EvA K I c tr Δ Ps) (h2 : ∀ ds, Ps ds → ∃ x y, ds = [x, y] ∧ N ((Δ.set j (some x)).set k (some y))) : Sv K I c (tPar j k tr) Δ N Rt := fun m σ G F R H mb e i s D q r =>
  h m σ G F R H mb e i s _ fun vs ds G' R' H' e' ii ss dd p => by
    obtain ⟨x, y, rfl, hN⟩ := h2 ds p
    cases dd with
    | cons dx dy =>
      cases dy with
      | cons dy dn =>
        cases dn
        exact ⟨_, _, rfl, q _ _ G' R' H' hN e' (((e.mono e').set dx).set dy) ii ss⟩
theorem sv_asgP {c j k : Nat} (h : Ev K I c te Δ P) (h2 : ∀ d, P d → ∃ x y, d = .tup [x, y] ∧ N ((Δ.set j (some x)).set k (some y))) : Sv K I c (tAsg te (gTup K 2 (gCons (gName j) (gCons (gName k) gNil)))) Δ N Rt := fun m σ G F R H mb e i s D q r =>
  h m σ G F R H mb e i s _ fun v d G' R' H' e' ii ss dd p => by
    obtain ⟨x, y, rfl, hN⟩ := h2 d p
    exact gd_pair σ Δ G' R' F H' v (e.mono e') ss dd _ fun σ' e2 _ => q _ _ G' R' H' hN e' e2 ii ss
theorem sv_seq {c1 c2 : Nat} (h1 : Sv K I c1 t Δ N1 Rt) (h2 : ∀ Δ', N1 Δ' → Sv K I c2 u Δ' N Rt) : Sv K I (c1 + c2) (tSeq t u) Δ N Rt := fun m σ G F R H mb e i s D q r =>
  h1 m σ G F R H (by omega) e i s _ (fun Δ' σ' G' R' H' n e' en ii ss => h2 Δ' n _ σ' G' F R' H' (by omega) en ii ss D (fun Δ'' σ'' G'' R'' H'' n' e'' en' ii' ss' => q Δ'' σ'' G'' R'' H'' n' (e'.trans e'') en' (I.as2 ii') ss')
    (fun v d G'' R'' H'' e'' ii' ss' dd p => r v d G'' R'' H'' (e'.trans e'') (I.as2 ii') ss' dd p)) (fun v d G' R' H' e' ii ss dd p => r v d G' R' H' e' (I.mono (by omega) ii) ss dd p)
theorem sv_if {c1 c2 c3 : Nat} (h1 : EvT K I c1 tt Δ B) (h2 : B true → Sv K I c2 t Δ N Rt) (h3 : B false → Sv K I c3 u Δ N Rt) : Sv K I (c1 + (c2 + c3)) (tIfS tt t u) Δ N Rt := fun m σ G F R H mb e i s D q r =>
  h1 m σ G F R H (by omega) e i s _ fun b G1 R1 H1 e1 i1 s1 p1 => by
    cases b with
    | true =>
      show t D σ H1
      exact h2 p1 _ σ G1 F R1 H1 (by omega) (e.mono e1) i1 s1 D (fun Δ'' σ'' G'' R'' H'' n' e'' en' ii' ss' => q Δ'' σ'' G'' R'' H'' n' (e1.trans e'') en' (I.mono (by omega) ii') ss') (fun v d G'' R'' H'' e'' ii' ss' dd p => r v d G'' R'' H'' (e1.trans e'') (I.mono (by omega) ii') ss' dd p)
    | false =>
      show u D σ H1
      exact h3 p1 _ σ G1 F R1 H1 (by omega) (e.mono e1) i1 s1 D (fun Δ'' σ'' G'' R'' H'' n' e'' en' ii' ss' => q Δ'' σ'' G'' R'' H'' n' (e1.trans e'') en' (I.mono (by omega) ii') ss') (fun v d G'' R'' H'' e'' ii' ss' dd p => r v d G'' R'' H'' (e1.trans e'') (I.mono (by omega) ii') ss' dd p)
/-- if .. with what follows in both ways -/
theorem sv_ifs {c1 c2 c3 : Nat} {w : TS} (h1 : EvT K I c1 tt Δ B) (h2 : B true → Sv K I c2 (tSeq t w) Δ N Rt) (h3 : B false → Sv K I c3 (tSeq u w) Δ N Rt) : Sv K I (c1 + (c2 + c3)) (tSeq (tIfS tt t u) w) Δ N Rt := fun m σ G F R H mb e i s D q r =>
  h1 m σ G F R H (by omega) e i s _ fun b G1 R1 H1 e1 i1 s1 p1 => by
    cases b with
    | true =>
      show (tSeq t w) D σ H1
      exact h2 p1 _ σ G1 F R1 H1 (by omega) (e.mono e1) i1 s1 D (fun Δ'' σ'' G'' R'' H'' n' e'' en' ii' ss' => q Δ'' σ'' G'' R'' H'' n' (e1.trans e'') en' (I.mono (by omega) ii') ss') (fun v d G'' R'' H'' e'' ii' ss' dd p => r v d G'' R'' H'' (e1.trans e'') (I.mono (by omega) ii') ss' dd p)
    | false =>
      show (tSeq u w) D σ H1
      exact h3 p1 _ σ G1 F R1 H1 (by omega) (e.mono e1) i1 s1 D (fun Δ'' σ'' G'' R'' H'' n' e'' en' ii' ss' => q Δ'' σ'' G'' R'' H'' n' (e1.trans e'') en' (I.mono (by omega) ii') ss') (fun v d G'' R'' H'' e'' ii' ss' dd p => r v d G'' R'' H'' (e1.trans e'') (I.mono (by omega) ii') ss' dd p)
/-- a return ahead of the rest -/
theorem sv_retS {c : Nat} {w : TS} (h : Ev K I c te Δ Rt) : Sv K I c (tSeq (tRet te) w) Δ N Rt := fun m σ G F R H mb e i s D q r => h m σ G F R H mb e i s _ fun v d G' R' H' e' ii ss dd p => r v d G' R' H' e' ii ss dd p
theorem sv_nextS {c : Nat} {w : TS} (h : Sv K I c w Δ N Rt) : Sv K I c (tSeq tNext w) Δ N Rt := h
/-- for target in ..: J its k: what holds of the slots after k turns -/
theorem sv_for {c0 cb n : Nat} {wi : TI} {g : TG} {js : List Nat} {Pi : List Dt → Prop} (hi : EvI K I c0 wi Δ Pi) (hl : ∀ its, Pi its → its.length ≤ n) (f : Dt → Sl → Sl) (J : List Dt → Nat → Sl → Prop) (h0 : ∀ its, Pi its → J its 0 Δ)
    (hs : ∀ its k d Δ', Pi its → its[k]? = some d → J its k Δ' → GD K g js d (f d) ∧ Sv K I cb t (f d Δ') (J its (k + 1)) Rt) (hN : ∀ its Δ', Pi its → J its its.length Δ' → N Δ') : Sv K I (c0 + n * cb) (tFor wi g t) Δ N Rt := fun m σ G F R H mb e i s D q r =>
  hi m σ G F R H (by omega) e i s _ fun Jt its G1 R1 H1 e1 i1 s1 it pi => by
    have hln := hl its pi
    have hmul : ∀ k, k ≤ its.length → k * cb ≤ n * cb := fun k hk => Nat.mul_le_mul_right _ (Nat.le_trans hk hln)
    refine ⟨fun k x σ2 H2 => x = its.length - k ∧ k ≤ its.length ∧ ∃ Δ2 G2 R2, Ex G1 G2 ∧ EnvD K G2 σ2 Δ2 ∧ I.p (m + c0 + k * cb) R2 ∧ Sp3 G2 R2 F H2 ∧ J its k Δ2,
      ⟨its.length, rfl, Nat.zero_le _, Δ, G1, R1, Evl.Ex.refl _, e.mono e1, by rw [Nat.zero_mul]; exact i1, s1, h0 its pi⟩, ?_⟩
    rintro k x σ2 H2 ⟨rfl, hk, Δ2, G2, R2, e2, en2, i2, s2, j2⟩
    by_cases hlt : k < its.length
    · refine .inr ⟨it.go k G2 R2 _ H2 e2 s2 hlt, fun σ3 H3 => ∃ Δ3 G3 R3, Ex G1 G3 ∧ EnvD K G3 σ3 Δ3 ∧ I.p (m + c0 + (k + 1) * cb) R3 ∧ Sp3 G3 R3 F H3 ∧ J its (k + 1) Δ3, fun σ3 H3 h3 => ?_, fun x H3 y => ?_⟩
      · exact ⟨its.length - (k + 1), by omega, rfl, hlt, h3⟩
      · have hd : its[k]? = some its[k] := List.getElem?_eq_getElem hlt
        have hk1 := hmul (k + 1) hlt
        rw [Nat.succ_mul] at hk1
        obtain ⟨G3, e3, s3, dx⟩ := it.yld k G2 R2 _ H2 _ e2 s2 hd x H3 y
        obtain ⟨gd, hb⟩ := hs its k _ Δ2 pi hd j2
        refine gd σ2 Δ2 G3 R2 F H3 x (en2.mono e3) s3 dx _ fun σ' env' _ => ?_
        refine hb _ σ' G3 F R2 H3 (by omega) env' i2 s3 _ (fun Δ4 σ4 G4 R4 H4 n4 e4 en4 i4 s4 => ?_) (fun v d G4 R4 H4 e4 i4 s4 dd p => ?_)
        · exact ⟨Δ4, G4, R4, (e2.trans e3).trans e4, en4, I.mono (by rw [Nat.succ_mul]; omega) i4, s4, n4⟩
        · exact r v d G4 R4 H4 (((e1.trans e2).trans e3).trans e4) (I.mono (by omega) i4) s4 dd p
    · have ek : k = its.length := by omega
      subst ek
      have hk1 := hmul its.length (Nat.le_refl _)
      exact .inl ⟨it.stop _ G2 R2 _ H2 e2 s2 rfl, q Δ2 σ2 G2 R2 H2 (hN its Δ2 pi j2) (e1.trans e2) en2 (I.mono (by omega) i2) s2⟩
end
/-! ### promises -/
abbrev Spec := List Dt → Nat → (Dt → Prop) → Prop
def mk (K : PySem.W.Frag) (Io : List Dt → Res → Prop) (S : Spec) : Sp := fun vs H Q E => ∃ ds I m c G F R P, Dens K G vs ds ∧ Io ds I ∧ m + c ≤ BIG ∧ I.p m R ∧ Sp3 G R F H ∧ S ds c P ∧
  ∀ v d G' R' H', Ex G G' → I.p (m + c) R' → Sp3 G' R' F H' → Den K G' v d → P d → Q v H'
abbrev anyI : List Dt → Res → Prop := fun _ _ => True
/-- a pure def: arguments as C says, result f -/
def pureS (n : Nat) (C : List Dt → Prop) (f : List Dt → Dt) : Spec := fun ds _ P => ds.length = n ∧ C ds ∧ P (f ds)
section
variable {K : PySem.W.Frag} {I : Res} {Δ : Sl} {P : Dt → Prop} {Ps : List Dt → Prop} {Io : List Dt → Res → Prop} {S : Spec}
theorem ev_call {c1 c2 : Nat} {E : XK} {tr : TA} (ha : EvA K I c1 tr Δ Ps) (hs : ∀ ds, Ps ds → Io ds I ∧ S ds c2 P) : Ev K I (c1 + c2) (tCall (mk K Io S) [] E tr) Δ P := fun m σ G F R H mb e i s Q q =>
  ha m σ G F R H (by omega) e i s _ fun vs ds G1 R1 H1 e1 i1 s1 d1 p1 => by
    show mk K Io S (vs ++ []) H1 Q E
    rw [List.append_nil]
    exact ⟨ds, I, m + c1, c2, G1, F, R1, P, d1, (hs ds p1).1, by omega, i1, s1, (hs ds p1).2, fun v d G2 R2 H2 e2 i2 s2 d2 p2 => q v d G2 R2 H2 (e1.trans e2) (I.as2 i2) s2 d2 p2⟩
end
section
variable {P : Program} {w : World} {K : PySem.W.Frag} {mg : Str → Option Value} {base : Heap}
theorem fn_mk {x qual : Str} {st : Stmt} {f : Addr} {fd : FuncData} {N ps : List Str} {k : Nat} {Io : List Dt → Res → Prop} {S : Spec} (F : Fun K x qual st f fd) (sc : FnScope N ps (defScope st)) (len : ∀ ds c p, S ds c p → ds.length = ps.length)
    (hbody : ∀ (cdv : Value) (A : Around) (outer : List Env) (s : Shared) (H : Hp) (E : XK), Room k (A.deeper (envOfC qual (defScope st) s.heap.objs.size f cdv)) →
      ∃ t, PSs (cxOf CX0 P w K mg base N qual (defScope st) f cdv A outer s H E).nox (defBody st) t ∧
        ∀ ds I c R, Io ds I → S ds c R → Sv K I c t (ds.map some ++ List.replicate (N.length - ds.length) none) (fun _ => R .non) R) : FnOk P w K mg base CX0 (k + 1) f fd ps (mk K Io S) := by
  refine F.ok sc (fun vs H Q E h => ?_) (fun cdv A outer s H vs Q E hr h => ?_)
  · obtain ⟨ds, I, m, c, G, F, R, P, hd, _, _, _, _, hS, _⟩ := h
    rw [hd.len]
    exact len _ _ _ hS
  · obtain ⟨t, ht, hv⟩ := hbody cdv A outer s H E hr
    obtain ⟨ds, I, m, c, G, F, R, P, hd, hI, mb, hR, sp, hS, q⟩ := h
    exact ⟨t, ht, hv ds I c P hI hS m _ G F R H mb (EnvD.start hd) hR sp _ (fun Δ' σ' G' R' H' n e' en ii ss => q _ _ G' R' H' e' ii ss .non n) (fun v d G' R' H' e' ii ss dd p => q v d G' R' H' e' ii ss dd p)⟩
end
end Fw
set_option Elab.async false
set_option linter.all false
set_option maxRecDepth 100000
set_option maxHeartbeats 4000000
/-! min(list, default=..) -/
namespace MnD
open PySem PySem.Spec PyProof.Rows
theorem margs (a v : Value) : argsOk "min" ⟨[a], [(Str.ofString "default", v)]⟩ := by
  unfold argsOk
  kernel_rfl
section
variable {prog : Program} {w : World} {A : Around} {Z : Result → Shared → Prop} {J : Addr} {fq wq : List Addr} {n : Nat} {Pp : Nat → Value → Prop} {Sx : Nat → Heap → Prop}
theorem loop_on (Wk : Walks prog w A.in1 J fq wq n Pp Sx) (lt : Nat → Nat → Bool) (cmp : CmpOf prog w A.in1 .Lt Pp lt) (C : Addr) (nC : C ∉ fq) (kw : List (Str × Value)) :
    ∀ (left j : Nat) (s : Shared) (best : Value) (cc : Nat), n - (j + 1) = left → j + 1 ≤ n → Sx (j + 1) s.heap → Pp (argBest lt j) best →
    s.heap.get? C = some { cls := .type "list", dict := none, data := .seq #[best, best] cc, slots := #[] } →
    (∀ v g tk, Pp (argBest lt (n - 1)) v → (∀ b o, b ∉ wq → b ≠ C → s.heap.get? b = some o → g.get? b = some o) → Z (.ok (.ret v)) { s with heap := g, toks := tk }) →
    codeAny (model prog w) A (.builtin "min.loop" ⟨[.ref J, .none, .ref C], kw⟩) Z s := by
  have nW : C ∉ wq := fun q => nC (Wk.sub _ q)
  have nm : (toString "min" ++ toString ".loop" : String) = "min.loop" := by decide
  intro left
  induction left with
  | zero =>
    intro j s best cc e1 e2 sx pb hC fin
    have ej : j + 1 = n := by omega
    refine codeAny_builtin F.entry_min_loop ?_
    rw [Around.under_plainId F.plain_min_loop _]
    show wpAny _ A.in1 (seqItems? (.ref C) >>= _) _ _ s
    refine wpAny_bind (wpAny_seqItems hC rfl ?_)
    show wpAny _ A.in1 (tryCatch (pyNext (.ref J)) _ >>= _) _ _ s
    refine wpAny_bind (wpAny_tryCatch (Wk.done s _ _ (ej ▸ sx) fun g tk kp => ?_))
    have hC2 := kp C _ nW hC
    show wpAny _ A.in1 (updateSeq C (fun _ => #[]) >>= _) _ _ _
    refine wpAny_bind ?_
    refine wpAny_updateSeq hC2 rfl (wpAny_bind (wpAny_letGo (wpAny_pure ?_)))
    exact fin best _ tk (by rw [← ej]; exact pb) fun b o b1 b2 e => (Heap.get?_update_other _ _ (Ne.symm b2)).trans (kp b o b1 e)
  | succ left ih =>
    intro j s best cc e1 e2 sx pb hC fin
    have lt1 : j + 1 < n := by omega
    refine codeAny_builtin F.entry_min_loop ?_
    rw [Around.under_plainId F.plain_min_loop _]
    show wpAny _ A.in1 (seqItems? (.ref C) >>= _) _ _ s
    refine wpAny_bind (wpAny_seqItems hC rfl ?_)
    show wpAny _ A.in1 (tryCatch (pyNext (.ref J)) _ >>= _) _ _ s
    refine wpAny_bind (wpAny_tryCatch (Wk.item (j + 1) s _ _ lt1 sx fun v g tk pv sx2 kp => ?_))
    have hC2 := kp C _ nW hC
    show wpAny _ A.in1 (tryCatch (holding [v, v] (richCompare .Lt v best >>= _)) _ >>= _) _ _ _
    refine wpAny_bind (wpAny_tryCatch (wpAny_holding (wpAny_bind (cmp (j + 1) (argBest lt j) v best _ _ _ pv pb ?_))))
    refine wpAny_bind (wpAny_holding (wpAny_truthy_bool ?_))
    refine wpAny_bind (wpAny_letGo (wpAny_pure ?_))
    cases hb : lt (j + 1) (argBest lt j) with
    | true =>
      simp only [if_true]
      refine wpAny_bind ?_
      refine wpAny_updateSeq hC2 rfl (wpAny_bind (wpAny_letGo ?_))
      rw [nm]
      refine wpAny_pure ⟨plainId_quiet F.plain_min_loop _, ih (j + 1) _ v _ (by omega) lt1 (Wk.frame _ _ _ sx2 fun b hbf o e => ?_) (by simp only [argBest, hb, if_true]; exact pv) (Heap.get?_update_self _ hC2 rfl)
        fun v2 g2 tk2 pv2 kp2 => ?_⟩
      · exact (Heap.get?_update_other _ _ (fun q : C = b => nC (by rw [q]; exact hbf))).trans e
      · exact fin v2 g2 tk2 pv2 fun b o b1 b2 e => kp2 b o b1 b2 ((Heap.get?_update_other _ _ (Ne.symm b2)).trans (kp b o b1 e))
    | false =>
      simp only [Bool.false_eq_true, if_false]
      refine wpAny_bind (wpAny_letGo ?_)
      rw [nm]
      refine wpAny_pure ⟨plainId_quiet F.plain_min_loop _, ih (j + 1) _ best cc (by omega) lt1 sx2 (by simp only [argBest, hb, Bool.false_eq_true, if_false]; exact pb) hC2 fun v2 g2 tk2 pv2 kp2 => ?_⟩
      exact fin v2 g2 tk2 pv2 fun b o b1 b2 e => kp2 b o b1 b2 (kp b o b1 e)
theorem loop_first (Wk : Walks prog w A.in1 J fq wq n Pp Sx) (lt : Nat → Nat → Bool) (cmp : CmpOf prog w A.in1 .Lt Pp lt) (C : Addr) (nC : C ∉ fq) (kw : List (Str × Value)) (hn : 0 < n) {s : Shared} {cc : Nat} (sx : Sx 0 s.heap)
    (hC : s.heap.get? C = some { cls := .type "list", dict := none, data := .seq #[] cc, slots := #[] })
    (fin : ∀ v g tk, Pp (argBest lt (n - 1)) v → (∀ b o, b ∉ wq → b ≠ C → s.heap.get? b = some o → g.get? b = some o) → Z (.ok (.ret v)) { s with heap := g, toks := tk }) :
    codeAny (model prog w) A (.builtin "min.loop" ⟨[.ref J, .none, .ref C], kw⟩) Z s := by
  have nW : C ∉ wq := fun q => nC (Wk.sub _ q)
  have nm : (toString "min" ++ toString ".loop" : String) = "min.loop" := by decide
  refine codeAny_builtin F.entry_min_loop ?_
  rw [Around.under_plainId F.plain_min_loop _]
  show wpAny _ A.in1 (seqItems? (.ref C) >>= _) _ _ s
  refine wpAny_bind (wpAny_seqItems hC rfl ?_)
  show wpAny _ A.in1 (tryCatch (pyNext (.ref J)) _ >>= _) _ _ s
  refine wpAny_bind (wpAny_tryCatch (Wk.item 0 s _ _ hn sx fun v g tk pv sx2 kp => ?_))
  have hC2 := kp C _ nW hC
  show wpAny _ A.in1 (updateSeq C (fun _ => #[v, v]) >>= _) _ _ _
  refine wpAny_bind ?_
  refine wpAny_updateSeq hC2 rfl ?_
  rw [nm]
  refine wpAny_pure ⟨plainId_quiet F.plain_min_loop _, loop_on Wk lt cmp C nC kw _ 0 _ v _ rfl hn (Wk.frame _ _ _ sx2 fun b hbf o e => ?_) pv (Heap.get?_update_self _ hC2 rfl) fun v2 g2 tk2 pv2 kp2 => ?_⟩
  · exact (Heap.get?_update_other _ _ (fun q : C = b => nC (by rw [q]; exact hbf))).trans e
  · exact fin v2 g2 tk2 pv2 fun b o b1 b2 e => kp2 b o b1 b2 ((Heap.get?_update_other _ _ (Ne.symm b2)).trans (kp b o b1 e))
theorem loop_empty (Wk : Walks prog w A.in1 J fq wq n Pp Sx) (C : Addr) (nC : C ∉ fq) (nm0 : Str) (dv : Value) (hn : n = 0) {s : Shared} {cc : Nat} (sx : Sx 0 s.heap)
    (hC : s.heap.get? C = some { cls := .type "list", dict := none, data := .seq #[] cc, slots := #[] })
    (fin : ∀ g tk, (∀ b o, b ∉ wq → s.heap.get? b = some o → g.get? b = some o) → Z (.ok (.ret dv)) { s with heap := g, toks := tk }) :
    codeAny (model prog w) A (.builtin "min.loop" ⟨[.ref J, .none, .ref C], [(nm0, dv)]⟩) Z s := by
  have nW : C ∉ wq := fun q => nC (Wk.sub _ q)
  refine codeAny_builtin F.entry_min_loop ?_
  rw [Around.under_plainId F.plain_min_loop _]
  show wpAny _ A.in1 (seqItems? (.ref C) >>= _) _ _ s
  refine wpAny_bind (wpAny_seqItems hC rfl ?_)
  show wpAny _ A.in1 (tryCatch (pyNext (.ref J)) _ >>= _) _ _ s
  refine wpAny_bind (wpAny_tryCatch (Wk.done s _ _ (hn ▸ sx) fun g tk kp => ?_))
  exact wpAny_bind (wpAny_rule (wpAny_pure (fin g tk kp)))
end
section
variable {prog : Program} {w : World} {A : Around} {E : Value → Shared → Prop} {s : Shared}
/-- a built-in function with keywords, to its tree's end -/
abbrev toEnd (prog : Program) (w : World) (A : Around) (Q : Value → Shared → Prop) (E : Value → Shared → Prop) : Result → Shared → Prop := fun r t => match r with
  | .ok (.ret v) => Q v t
  | .ok _ => False
  | .error e => E e t
theorem tree_kw {id : String} {bt : Builtin} {us : List Value} {kw : List (Str × Value)} {Q : Value → Shared → Prop} (k1 : builtinKind id = none) (k2 : plainId id = true) (k3 : entryFor table id = some bt) (k4 : argsOk id ⟨us, kw⟩)
    (run : wpAny (model prog w) A.in1 (bt ⟨us, kw⟩) (fun fin t => match fin with
      | .done f => toEnd prog w A Q E (.ok f) t
      | .again c => c.quiet = true ∧ codeAny (model prog w) A c (toEnd prog w A Q E) t) E s) :
    wpAny (model prog w) A (call (.builtin id) us kw) Q E s := by
  refine wpAny_call (codeAny_call_builtin k2 k3 ?_)
  simp only [checkBuiltinCall, k1]
  cases q : Manifest.signature? id with
  | none => exact wpAny_pure run
  | some sg =>
    have k5 : Bind.checkArgs id sg ⟨us, kw⟩ = pure () := by simpa only [argsOk, q] using k4
    simp only [k5]
    exact wpAny_pure run
theorem call_minD {x dv : Value} {Q : Value → Shared → Prop}
    (h : wpAny (model prog w) A.in1 (pyIter x) (fun it s₂ => ∃ J fq wq n Pp Sx lt, it = .ref J ∧ Walks prog w A.in1 J fq wq n Pp Sx ∧ Sx 0 s₂.heap ∧ (∀ b ∈ fq, b < s₂.heap.objs.size) ∧ CmpOf prog w A.in1 .Lt Pp lt ∧
      (0 < n → ∀ v g tk, Pp (argBest lt (n - 1)) v → (∀ b o, b ∉ wq → s₂.heap.get? b = some o → g.get? b = some o) → Q v { s₂ with heap := g, toks := tk }) ∧
      (n = 0 → ∀ g tk, (∀ b o, b ∉ wq → s₂.heap.get? b = some o → g.get? b = some o) → Q dv { s₂ with heap := g, toks := tk })) E s) :
    wpAny (model prog w) A (call (.builtin "min") [x] [(Str.ofString "default", dv)]) Q E s := by
  have nm : (toString "min" ++ toString ".loop" : String) = "min.loop" := by decide
  refine tree_kw F.kind_min F.plain_min F.entry_min (margs x dv) ?_
  show wpAny _ A.in1 (Builtin.Builtins.bindParams "min" ["key", "default"] 0 ⟨[], [(Str.ofString "default", dv)]⟩ >>= _) _ _ s
  refine wpAny_bind (wpAny_of_eq (show Builtin.Builtins.bindParams "min" ["key", "default"] 0 ⟨[], [(Str.ofString "default", dv)]⟩ = pure [none, some dv] from rfl) ?_)
  refine wpAny_bind (wpAny_pure ?_)
  refine wpAny_bind (wpAny_mono h (fun it s₂ h₂ => ?_) fun _ _ e => e)
  obtain ⟨J, fq, wq, n, Pp, Sx, lt, rfl, Wk, sx, hfp, cmp, q1, q0⟩ := h₂
  refine wpAny_bind (wpAny_newObj_type ?_)
  have nC : s₂.heap.objs.size ∉ fq := fun hm => Nat.lt_irrefl _ (hfp _ hm)
  rw [nm]
  by_cases hn : n = 0
  · refine wpAny_pure ⟨plainId_quiet F.plain_min_loop _, loop_empty Wk s₂.heap.objs.size nC _ dv hn (Wk.frame _ _ _ sx fun b _ o e => Heap.get?_push_of_some _ e) (Heap.get?_push_size _ rfl) fun g tk kp => ?_⟩
    exact q0 hn g tk fun b o b1 e => kp b o b1 (Heap.get?_push_of_some _ e)
  · refine wpAny_pure ⟨plainId_quiet F.plain_min_loop _, loop_first Wk lt cmp s₂.heap.objs.size nC _ (Nat.pos_of_ne_zero hn) (Wk.frame _ _ _ sx fun b _ o e => Heap.get?_push_of_some _ e) (Heap.get?_push_size _ rfl) fun v g tk pv kp => ?_⟩
    exact q1 (Nat.pos_of_ne_zero hn) v g tk pv fun b o b1 e => kp b o b1 (Nat.ne_of_lt (Heap.lt_size e)) (Heap.get?_push_of_some _ e)
end
end MnD
set_option Elab.async false
set_option linter.all false
set_option maxRecDepth 100000
set_option maxHeartbeats 4000000
namespace Fw
open PySem PySem.Spec PyProof.Rows L2
open Evl (Ex)
/-! min with a default -/
def rMinD (K : PySem.W.Frag) : List V → List V → Hp → VK → Prop := fun xs zs H Q => ∃ (a : Addr) (ns : List Int) (d : Int), xs = [.ref a] ∧ zs = [.int d] ∧ SqL K H a (ns.map V.int) ∧ (ns = [] → Q (.int d) H) ∧ (ns ≠ [] → ∀ m ∈ ns, (∀ y ∈ ns, m ≤ y) → Q (.int m) H)
theorem cr_minD {X : Cx} (hc : X.calm = true) : CallRK X (.builtin "min") [Str.ofString "default"] (rMinD X.K) := by
  intro pins s σ H xs zs us ws Q I r r2 h
  obtain ⟨a, ns, d, rfl, rfl, hs, q0, q1⟩ := h
  obtain ⟨its, rv, hl, _⟩ := I.list hs
  rw [Vals.ref1 r]
  obtain ⟨wv, rfl, tk0, rfl⟩ := vals1 r2
  obtain ⟨ps, e⟩ := rv.ints.allInts.items
  have hn : numsOf (intItems ps).toList = ns := by
    rw [← e]
    exact rv.ints.numsOf
  rw [nums_intItems] at hn
  have hl2 := hl.isList
  rw [e] at hl2
  have hlen : ns.length = ps.size := by
    rw [← hn, List.length_map, Array.length_toList]
  refine MnD.call_minD (iter_intList hl2 fun s₂ e2 st hfp hlI => ?_)
  subst e2
  refine ⟨_, _, _, _, _, _, _, rfl, Walks.list (A := X.A.in1) (I.ok.hd hc) _ a hlI (intItems ps), st, hfp, CmpOf.ints_lt (numAt ps) (fun _ _ => intItems_at), fun hpos v g tk hv hk => ?_, fun hz g tk hk => ?_⟩
  · have hpos2 : 0 < ps.size := by simpa [intItems] using hpos
    have hv2 : (intItems ps)[argBest (fun i j => decide (numAt ps i < numAt ps j)) (ps.size - 1)]? = some v := by simpa [intItems] using hv
    obtain ⟨t, rfl⟩ := intItems_at hv2
    obtain ⟨h1, h2⟩ := argBest_lt (numAt ps) (ps.size - 1)
    have hne : ns ≠ [] := fun z => by
      rw [z] at hlen
      simp at hlen
      omega
    refine ⟨.int _, H, I.kept (old_kept hk), ⟨_, rfl⟩, q1 hne _ ?_ fun y hy => ?_⟩
    · rw [← hn, numAt_eq]
      exact PySem.getD_mem (by rw [List.length_map, Array.length_toList]; omega)
    · rw [← hn] at hy
      obtain ⟨j, hj, rfl⟩ := mem_getD hy
      rw [List.length_map, Array.length_toList] at hj
      rw [← numAt_eq]
      exact h2 j (by omega)
  · have hz2 : ps.size = 0 := by simpa [intItems] using hz
    have hne : ns = [] := List.eq_nil_of_length_eq_zero (by rw [hlen, hz2])
    exact ⟨.int d, H, I.kept (old_kept hk), ⟨_, rfl⟩, q0 hne⟩
section
variable {K : PySem.W.Frag} {I : Res} {Δ : Sl} {P : Dt → Prop} {Ps Qs : List Dt → Prop}
theorem ev_minD {c1 c2 : Nat} {tr tk : TA} (ha : EvA K I c1 tr Δ Ps) (hk : EvA K I c2 tk Δ Qs) (h : ∀ xs zs, Ps xs → Qs zs → ∃ (ns : List Int) (d : Int), xs = [.lst (ns.map Dt.int)] ∧ zs = [.int d] ∧ (ns = [] → P (.int d)) ∧ (ns ≠ [] → ∀ m ∈ ns, (∀ y ∈ ns, m ≤ y) → P (.int m))) :
    Ev K I (c1 + c2) (tCKw (rMinD K) tr tk) Δ P := fun m σ G F R H mb e i s Q q =>
  ha m σ G F R H (by omega) e i s _ fun vs ds G1 R1 H1 e1 i1 s1 d1 p1 => hk _ σ G1 F R1 H1 (by omega) (e.mono e1) i1 s1 _ fun zs es G2 R2 H2 e2 i2 s2 d2 p2 => by
    obtain ⟨ns, d, rfl, rfl, h0, h1⟩ := h ds es p1 p2
    have d1' := d1.mono e2
    cases d2 with
    | cons dd dn =>
      cases dn
      cases dd
      cases d1' with
      | cons dl dn =>
        cases dn
        cases dl with
        | lst ha hd =>
          have e := hd.ints
          subst e
          exact ⟨_, ns, d, rfl, rfl, s2.lstH ha, fun z => q _ _ G2 R2 H2 (e1.trans e2) (I.as2 i2) s2 (.int _) (h0 z), fun z m hm hle => q _ _ G2 R2 H2 (e1.trans e2) (I.as2 i2) s2 (.int _) (h1 z m hm hle)⟩
end
/-! == of data without dicts -/
mutual
def toP : Dt → PyData
  | .non => .none
  | .bl b => .bool b
  | .int i => .int i
  | .str s => .str s
  | .lst xs => .list (toPs xs)
  | .tup xs => .tuple (toPs xs)
  | .dic => .dict []
  | .ptr _ => .none
  | .cls _ => .none
  | .scr _ => .none
def toPs : List Dt → List PyData
  | [] => []
  | x :: xs => toP x :: toPs xs
end
mutual
def flatD : Dt → Bool
  | .dic => false
  | .ptr _ => false
  | .cls _ => false
  | .scr _ => false
  | .lst xs => flatDs xs
  | .tup xs => flatDs xs
  | .non | .bl _ | .int _ | .str _ => true
def flatDs : List Dt → Bool
  | [] => true
  | x :: xs => flatD x && flatDs xs
end
section
variable {K : PySem.W.Frag} {G H : Hp}
mutual
theorem Den.dp (e : Ex G H) : ∀ {v : V} {d : Dt}, Den K G v d → flatD d = true → Dp K H v (toP d)
  | _, _, .non, _ => .non
  | _, _, .bl b, _ => .bl b
  | _, _, .int i, _ => .int i
  | _, _, .str x, _ => .str x
  | _, _, .lst h hs, f => .lst (.inl (.inl (e _ _ h))) (Dens.dp e hs (by simpa [flatD] using f))
  | _, _, .tup h hs, f => .tup (.inl (.inl (e _ _ h))) (Dens.dp e hs (by simpa [flatD] using f))
  | _, _, .dic h, f => by simp [flatD] at f
  | _, _, .ptr a, f => by simp [flatD] at f
  | _, _, .cls v, f => by simp [flatD] at f
  | _, _, .scr h, f => by simp [flatD] at f
theorem Dens.dp (e : Ex G H) : ∀ {vs : List V} {ds : List Dt}, Dens K G vs ds → flatDs ds = true → DpAll K H vs (toPs ds)
  | _, _, .nil, _ => .nil
  | _, _, .cons h hs, f => .cons (Den.dp e h (Bool.and_eq_true_iff.mp f).1) (Dens.dp e hs (Bool.and_eq_true_iff.mp f).2)
end
theorem opd_eqD {x y : Dt} (hx : flatD x = true) (hy : flatD y = true) (sx : SeqAt.shaped (toP x) = true) (sy : SeqAt.shaped (toP y) = true) : OpD K (rEqD K) x y (· = .bl (PyData.eqv (toP x) (toP y))) := fun v w G F R H s hv hw Q q =>
  ⟨_, _, hv.dp s.g hx, hw.dp s.g hy, sx, sy, q _ _ G H (Evl.Ex.refl _) s (.bl _) rfl⟩
theorem opd_neD {x y : Dt} (hx : flatD x = true) (hy : flatD y = true) (sx : SeqAt.shaped (toP x) = true) (sy : SeqAt.shaped (toP y) = true) : OpD K (rNeD K) x y (· = .bl (!PyData.eqv (toP x) (toP y))) := fun v w G F R H s hv hw Q q =>
  ⟨_, _, hv.dp s.g hx, hw.dp s.g hy, sx, sy, q _ _ G H (Evl.Ex.refl _) s (.bl _) rfl⟩
end
abbrev iL (ns : List Int) : List Dt := ns.map Dt.int
theorem flat_ints : ∀ ns : List Int, flatDs (iL ns) = true
  | [] => rfl
  | n :: ns => by
    show (flatD (.int n) && flatDs (iL ns)) = true
    rw [flat_ints ns]
    rfl
theorem toPs_ints : ∀ ns : List Int, toPs (iL ns) = ns.map PyData.int
  | [] => rfl
  | n :: ns => by
    show toP (.int n) :: toPs (iL ns) = PyData.int n :: ns.map PyData.int
    rw [toPs_ints ns]
    rfl
theorem lay_ints : ∀ ns : List Int, PyData.canLayAll0 (ns.map PyData.int) = true
  | [] => rfl
  | n :: ns => by
    show (PyData.canLay0 (.int n) && PyData.canLayAll0 (ns.map PyData.int)) = true
    rw [lay_ints ns]
    rfl
theorem depth_ints : ∀ ns : List Int, PyData.depthAll (ns.map PyData.int) = 0
  | [] => rfl
  | n :: ns => by
    show max (PyData.depth (.int n)) (PyData.depthAll (ns.map PyData.int)) = 0
    rw [depth_ints ns]
    rfl
theorem eqv_ints : ∀ ns ms : List Int, PyData.eqvAll (ns.map PyData.int) (ms.map PyData.int) = decide (ns = ms)
  | [], [] => rfl
  | [], _ :: _ => rfl
  | _ :: _, [] => rfl
  | n :: ns, m :: ms => by
    show (PyData.eqv (.int n) (.int m) && PyData.eqvAll (ns.map PyData.int) (ms.map PyData.int)) = decide (n :: ns = m :: ms)
    rw [eqv_ints ns ms]
    show ((n == m) && decide (ns = ms)) = decide (n :: ns = m :: ms)
    by_cases h1 : n = m
    · subst h1
      simp
    · simp [h1]
theorem shaped_tup (ns : List Int) : SeqAt.shaped (toP (.tup (iL ns))) = true := by
  show SeqAt.shaped (.tuple (toPs (iL ns))) = true
  rw [toPs_ints]
  unfold SeqAt.shaped
  rw [Bool.and_eq_true]
  refine ⟨?_, ?_⟩
  · show PyData.canLayAll0 (ns.map PyData.int) = true
    exact lay_ints ns
  · refine decide_eq_true ?_
    show PyData.depthAll (ns.map PyData.int) + 1 ≤ 64
    rw [depth_ints]
    omega
theorem shaped_lst (ns : List Int) : SeqAt.shaped (toP (.lst (iL ns))) = true := by
  show SeqAt.shaped (.list (toPs (iL ns))) = true
  rw [toPs_ints]
  unfold SeqAt.shaped
  rw [Bool.and_eq_true]
  refine ⟨?_, ?_⟩
  · show PyData.canLayAll0 (ns.map PyData.int) = true
    exact lay_ints ns
  · refine decide_eq_true ?_
    show PyData.depthAll (ns.map PyData.int) + 1 ≤ 64
    rw [depth_ints]
    omega
theorem opd_eqTI {K : PySem.W.Frag} {ns ms : List Int} : OpD K (rEqD K) (.tup (iL ns)) (.tup (iL ms)) (· = .bl (decide (ns = ms))) := by
  have h := opd_eqD (K := K) (x := .tup (iL ns)) (y := .tup (iL ms)) (flat_ints ns) (flat_ints ms) (shaped_tup ns) (shaped_tup ms)
  have e : PyData.eqv (toP (.tup (iL ns))) (toP (.tup (iL ms))) = decide (ns = ms) := by
    show PyData.eqvAll (toPs (iL ns)) (toPs (iL ms)) = _
    rw [toPs_ints, toPs_ints, eqv_ints]
  rw [e] at h
  exact h
theorem opd_neTI {K : PySem.W.Frag} {ns ms : List Int} : OpD K (rNeD K) (.tup (iL ns)) (.tup (iL ms)) (· = .bl (!decide (ns = ms))) := by
  have h := opd_neD (K := K) (x := .tup (iL ns)) (y := .tup (iL ms)) (flat_ints ns) (flat_ints ms) (shaped_tup ns) (shaped_tup ms)
  have e : PyData.eqv (toP (.tup (iL ns))) (toP (.tup (iL ms))) = decide (ns = ms) := by
    show PyData.eqvAll (toPs (iL ns)) (toPs (iL ms)) = _
    rw [toPs_ints, toPs_ints, eqv_ints]
  rw [e] at h
  exact h
theorem opd_neLI {K : PySem.W.Frag} {ns ms : List Int} : OpD K (rNeD K) (.lst (iL ns)) (.lst (iL ms)) (· = .bl (!decide (ns = ms))) := by
  have h := opd_neD (K := K) (x := .lst (iL ns)) (y := .lst (iL ms)) (flat_ints ns) (flat_ints ms) (shaped_lst ns) (shaped_lst ms)
  have e : PyData.eqv (toP (.lst (iL ns))) (toP (.lst (iL ms))) = decide (ns = ms) := by
    show PyData.eqvAll (toPs (iL ns)) (toPs (iL ms)) = _
    rw [toPs_ints, toPs_ints, eqv_ints]
  rw [e] at h
  exact h
theorem opd_eqLI {K : PySem.W.Frag} {ns ms : List Int} : OpD K (rEqD K) (.lst (iL ns)) (.lst (iL ms)) (· = .bl (decide (ns = ms))) := by
  have h := opd_eqD (K := K) (x := .lst (iL ns)) (y := .lst (iL ms)) (flat_ints ns) (flat_ints ms) (shaped_lst ns) (shaped_lst ms)
  have e : PyData.eqv (toP (.lst (iL ns))) (toP (.lst (iL ms))) = decide (ns = ms) := by
    show PyData.eqvAll (toPs (iL ns)) (toPs (iL ms)) = _
    rw [toPs_ints, toPs_ints, eqv_ints]
  rw [e] at h
  exact h
theorem opd_isB {K : PySem.W.Frag} {a b : Bool} : OpD K rIsB (.bl a) (.bl b) (· = .bl (decide (a = b))) := fun v w G F R H s hv hw Q q => by
  cases hv
  cases hw
  exact ⟨a, b, rfl, rfl, q _ _ G H (Evl.Ex.refl _) s (.bl _) rfl⟩
theorem opd_notB {K : PySem.W.Frag} {a b : Bool} : OpD K rNotB (.bl a) (.bl b) (· = .bl (!decide (a = b))) := fun v w G F R H s hv hw Q q => by
  cases hv
  cases hw
  exact ⟨a, b, rfl, rfl, q _ _ G H (Evl.Ex.refl _) s (.bl _) rfl⟩
end Fw
set_option Elab.async false
set_option linter.all false
set_option maxRecDepth 100000
set_option maxHeartbeats 4000000
/-! enumerate(tuple) -/
namespace EnT
open PySem PySem.Spec PyProof.Rows L2
open AutoSeq1 (wpAny_loadPart')
theorem new_meets (q : Addr) (us : Array Value) (n : Nat) (dc : Option Addr) (sl : Array (Option Value)) :
    Meets (Builtin.«enumerate.__new__» ⟨[.type "enumerate", .ref q], []⟩) (fun _ Z s => s.heap.get? q = some { cls := .type "tuple", dict := dc, data := .seq us n, slots := sl } ∧
      Z (.ok (.ret (.ref (s.heap.push { cls := .type "tuple_iterator", data := .fields #[.ref q, .int 0 0] }).objs.size)))
        { s with heap := (s.heap.push { cls := .type "tuple_iterator", data := .fields #[.ref q, .int 0 0] }).push { cls := .type "enumerate", data := .fields #[.none, .bool false, .ref s.heap.objs.size, rawInt 0, .none, .none] } }) :=
  .of_wp fun prog w A Z s hz => by
    obtain ⟨hp, gs, dr, tk, os⟩ := s
    obtain ⟨hq, fin⟩ := hz
    have sb := sub_enumerate
    have hT : Heap.IsTuple (Shared.heap ⟨hp, gs, dr, tk, os⟩) q us := ⟨_, hq, rfl, n, rfl⟩
    wp_walk using wpAny_loadPart' hq
    refine wpAny_stack_any fun st => wpAny_pure ?_
    split
    · rename_i cc _ _ _ _ _
      cases (cc == Value.type "enumerate")
      · wp_walk using wpAny_loadPart' hq, wpAny_pyIter_tuple hT
        exact ⟨_, rfl, fin⟩
      · wp_walk using wpAny_loadPart' hq, wpAny_pyIter_tuple hT
        exact ⟨_, rfl, fin⟩
    · wp_walk using wpAny_loadPart' hq, wpAny_pyIter_tuple hT
      exact ⟨_, rfl, fin⟩
section
variable {prog : Program} {w : World} {A : Around} {E : Value → Shared → Prop} {s : Shared}
theorem made {q : Addr} {us : Array Value} {Q : Value → Shared → Prop} (hT : IsTup s.heap q us)
    (fin : ∀ g, IsEnum g (s.heap.objs.size + 1) s.heap.objs.size 0 .none → g.IsTupleIter s.heap.objs.size q 0 → g.objs.size = s.heap.objs.size + 2 → (∀ b o, s.heap.get? b = some o → g.get? b = some o) → Q (.ref (s.heap.objs.size + 1)) { s with heap := g }) :
    wpAny (model prog w) A (call (.type "enumerate") [.ref q]) Q E s := by
  obtain ⟨⟨cc, dc, dt, sl⟩, hq, hcc, n, hdt⟩ := hT
  simp only at hcc hdt
  subst hcc hdt
  refine callType_new F.called_enumerate (by decide) (F.typeCall_enumerate_1 _) (F.newCall_enumerate_1 _) (fun obj => F.args_object_init_2 obj _) F.entry_enumerate_new
    (new_meets q us n dc sl) ⟨hq, ?_⟩
  have sz : (s.heap.push { cls := .type "tuple_iterator", data := .fields #[.ref q, .int 0 0] }).objs.size = s.heap.objs.size + 1 := Heap.size_push ..
  show _ ∧ _
  rw [sz]
  have en : IsEnum ((s.heap.push { cls := .type "tuple_iterator", data := .fields #[.ref q, .int 0 0] }).push
      { cls := .type "enumerate", data := .fields #[.none, .bool false, .ref s.heap.objs.size, rawInt 0, .none, .none] }) (s.heap.objs.size + 1) s.heap.objs.size 0 .none := by
    have z := Heap.get?_push_size (s.heap.push { cls := .type "tuple_iterator", data := .fields #[.ref q, .int 0 0] })
      (o := { cls := .type "enumerate", data := .fields #[.none, .bool false, .ref s.heap.objs.size, rawInt 0, .none, .none] }) rfl
    rw [sz] at z
    exact z
  exact ⟨⟨_, en, rfl⟩, fin _ en ⟨_, Heap.get?_push_of_some _ (Heap.get?_push_size _ rfl), rfl, rfl⟩ (by rw [Heap.size_push, sz]) fun b o z => Heap.get?_push_of_some _ (Heap.get?_push_of_some _ z)⟩
end
/-- the tuple at a as it stands at each turn, each item in a new pair -/
def ItT (K : PySem.W.Frag) (a : Addr) : It where
  go := fun i H => ∃ (xs : List V) (x : V), SqT K H a xs ∧ xs[i]? = some x
  yld := fun i H v H' => ∃ T x, v = .ref T ∧ H T = none ∧ H' = upd H T (.tup [.int (i : Nat), x]) ∧ ∀ xs, SqT K H a xs → xs[i]? = some x
  stop := fun i H => ∃ xs : List V, SqT K H a xs ∧ xs.length = i
theorem turns {P : Program} {w : World} {K : PySem.W.Frag} {elts : List Expr} {kk : Nat} {tpos : Pos} (a e it : Addr) (hai : a ≠ it) (hae : a ≠ e) :
    Turn P w K (.Tuple elts kk tpos) (ItT K a) [e, it] e (fun i h => (∃ old, IsEnum h e it ((i : Nat) : Int) old) ∧ h.IsTupleIter it a i ∧ e ≠ it) where
  mem := by simp
  obj := fun i h st b hb => by
    obtain ⟨⟨old, he⟩, ⟨o, ho, hc, hd⟩, _⟩ := st
    have z : b = e ∨ b = it := by simpa using hb
    rcases z with z | z
    · subst z
      exact ⟨_, he, fun v q => nomatch q⟩
    · subst z
      exact ⟨o, ho, fun v q => by rw [hd] at q; cases q⟩
  keep := fun i h h' st k => by
    obtain ⟨⟨old, he⟩, hi, hne⟩ := st
    exact ⟨⟨old, k e (by simp) _ he⟩, hi.at fun o q => k it (by simp) o q, hne⟩
  item := by
    intro X hP hw hK hcalm i pins s σ H E I hf st hg
    subst hP hw hK
    obtain ⟨⟨old, he⟩, hit, hne⟩ := st
    obtain ⟨xs, x, hq, hx⟩ := hg
    obtain ⟨its, rv, p, hz⟩ := I.tuple hq
    obtain ⟨u, hu, ru⟩ := rv.get hx
    have hel : e < s.heap.objs.size := Heap.lt_size he
    have hil : it < s.heap.objs.size := by
      obtain ⟨_, q, _⟩ := hit
      exact Heap.lt_size q
    have hlt : i < its.toArray.size := by
      rw [List.size_toArray]
      exact (List.getElem?_eq_some_iff.mp hu).1
    have D := Draws.tuple (prog := X.prog) (w := X.w) (A := X.A.in1) (I.ok.hd hcalm) it a hai its.toArray
    refine wpAny_pyNext_enum_itemD D he ⟨hit, p⟩ hlt hne (by simp [hne, Ne.symm hae]) fun y h' tk hy ho st' hT hsz hk => ?_
    have ey : y = u := by
      have z : its.toArray[i]? = some u := by simpa using hu
      rw [z] at hy
      exact (Option.some.inj hy).symm
    subst ey
    refine ⟨_, rfl, wpAny_letOwnedTupleGo_enum (s := { s with heap := h', toks := tk + 1 }) ho fun h'' he' sb => ?_⟩
    have hT2 : h''.get? s.heap.objs.size = some { cls := .type "tuple", data := .seq #[.int i tk, y] } := (sb.2 _ (Nat.ne_of_gt hel)).trans hT
    have new : ObjOk X.prog X.w (upd H s.heap.objs.size (.tup [.int (i : Nat), x])) h'' s.heap.objs.size (.tup [.int (i : Nat), x]) :=
      ⟨by show 2 ≤ sizeLine; decide, [.int i tk, y], .cons ⟨_, rfl⟩ (.cons ru .nil), ⟨_, hT2, rfl, _, rfl⟩⟩
    have I1 : Inv X pins σ (upd H s.heap.objs.size (.tup [.int (i : Nat), x])) { s with heap := h'', toks := tk + 1 } :=
      I.turnedNew (ch := [e, it]) (fun b ob hb q => (sb.2 b (fun z => hb (by simp [z]))).trans (hk b ob (fun z => hb (by simp [z])) (fun z => hb (by simp [z])) q)) hf (Nat.le_refl _) new
    refine ⟨.ref s.heap.objs.size, _, I1, rfl, ⟨_, x, rfl, I.hok.fresh (Nat.le_refl _), rfl, fun ys hy => by rw [I.tuple_inj hy hq]; exact hx⟩, ⟨⟨y, ?_⟩, st'.1.at fun o q => (sb.2 it (Ne.symm hne)).trans q, hne⟩, fun b hb => ?_⟩
    · have e1 : ((i + 1 : Nat) : Int) = (i : Int) + 1 := by omega
      rw [e1]
      exact he'
    · have hb' : b < s.heap.objs.size := by
        have z : b = e ∨ b = it := by simpa using hb
        rcases z with z | z
        · subst z
          exact hel
        · subst z
          exact hil
      rw [upd_ne (Nat.ne_of_lt hb')]
      exact (hf b hb).1
  done := by
    intro X hP hw hK hcalm i pins s σ H E I hf st hg
    subst hP hw hK
    obtain ⟨⟨old, he⟩, hit, hne⟩ := st
    obtain ⟨xs, hq, hx⟩ := hg
    obtain ⟨its, rv, p, hz⟩ := I.tuple hq
    obtain ⟨f0, f1, f2, f3, f4, f5⟩ := hf it (by simp)
    have hl := rv.length
    have D := Draws.tuple (prog := X.prog) (w := X.w) (A := X.A.in1) (I.ok.hd hcalm) it a hai its.toArray
    have en : its.toArray.size = i := by
      rw [List.size_toArray, ← hl]
      exact hx
    refine wpAny_pyNext_enum_endD D he (by rw [en]; exact ⟨hit, p⟩) fun h' eb => ⟨rfl, I.turned (t' := s.toks) (fun b o hb q => eb b o hb q) f0 f1 f3 f4 f5⟩
  self := fun A i s Q E st h => by
    obtain ⟨⟨_, he⟩, _⟩ := st
    exact wpAny_pyIter_enum he h
def iEnT (K : PySem.W.Frag) (ta : TA) : TI := fun σ H R => ta σ H fun vs H1 => ∃ a xs, vs = [.ref a] ∧ SqT K H1 a xs ∧ R (ItT K a) H1
theorem pi_enT {X : Cx} {e : Expr} {ta : TA} {p pos tpos : Pos} {elts : List Expr} {kk : Nat} (hg : Gl X "enumerate") (hm : X.mg "enumerate" = none) (ha : PA X [e] ta) (hs : starEach [e] X.env = [(false, eval e X.env)] := by rfl) :
    PI X (.Tuple elts kk tpos) (.Call (.Name "enumerate" p) [e] [] pos) (iEnT X.K ta) := by
  refine ⟨fun pins s σ H R I h => ?_⟩
  refine Call_ (ld_blt I hg hm boot_enumerate (PyProof.Rows.callWith_type1 (thn (ha.run pos pins s σ H _ I h) fun us s1 ⟨vs, H1, I1, r1, q1⟩ => ?_) hs rfl))
  obtain ⟨a, xs, ex, hq, q⟩ := q1
  subst ex
  cases r1 with
  | cons r rr =>
    cases rr
    cases r
    obtain ⟨its, rv, p', hz⟩ := I1.tuple hq
    have hal : a < s1.heap.objs.size := by
      obtain ⟨_, z, _⟩ := p'
      exact Heap.lt_size z
    refine made p' fun g he hit hsz hk => wpAny_pyIter_enum he ?_
    have I2 : Inv X pins σ H1 { s1 with heap := g } := I1.kept (t' := s1.toks) hk
    refine ⟨s1.heap.objs.size + 1, [s1.heap.objs.size + 1, s1.heap.objs.size], _, _, H1, rfl, I2, turns a (s1.heap.objs.size + 1) s1.heap.objs.size (Nat.ne_of_lt hal) (Nat.ne_of_lt (Nat.lt_succ_of_lt hal)), ⟨⟨.none, he⟩, hit, Nat.succ_ne_self _⟩, fun b hb => ?_, q⟩
    have z : b = s1.heap.objs.size + 1 ∨ b = s1.heap.objs.size := by simpa using hb
    have hle : s1.heap.objs.size ≤ b := by
      rcases z with z | z
      · rw [z]
        exact Nat.le_add_right _ _
      · rw [z]
        exact Nat.le_refl _
    exact I1.fpOk hle (I1.hok.fresh hle)
end EnT
namespace Fw
open PySem PySem.Spec PyProof.Rows L2
open Evl (Ex)
def enumD (xs : List Dt) : List Dt := zipD (rngD 0 xs.length) xs
section
variable {K : PySem.W.Frag} {I : Res} {Δ : Sl} {Ps : List Dt → Prop}
theorem enumD_len (xs : List Dt) : (enumD xs).length = xs.length := by
  unfold enumD
  rw [zipD_len, rngD_len]
  omega
theorem rngD_get {lo : Int} {n i : Nat} {d : Dt} (h : (rngD lo n)[i]? = some d) : d = .int (lo + (i : Nat)) := by
  unfold rngD at h
  rw [List.getElem?_map] at h
  obtain ⟨k, e1, e2⟩ := Option.map_eq_some_iff.mp h
  have hl := (List.getElem?_eq_some_iff.mp e1).1
  rw [List.length_range] at hl
  rw [List.getElem?_range hl] at e1
  cases e1
  exact e2.symm
theorem enumD_get {xs : List Dt} {i : Nat} {d : Dt} (h : (enumD xs)[i]? = some d) : ∃ x, xs[i]? = some x ∧ d = .tup [.int (i : Nat), x] := by
  obtain ⟨p, x, e1, e2, rfl⟩ := zipD_get h
  have e := rngD_get e1
  rw [Int.zero_add] at e
  subst e
  exact ⟨x, e2, rfl⟩
theorem itd_enT {G : Hp} {a : Addr} {vs : List V} {xs : List Dt} (ha : G a = some (.tup vs)) (dx : Dens K G vs xs) : ItD K (EnT.ItT K a) (enumD xs) G := by
  refine ⟨fun i G1 R F H e s hi => ?_, fun i G1 R F H d e s hi x H' y => ?_, fun i G1 R F H e s hi => ?_⟩
  · rw [enumD_len] at hi
    obtain ⟨v, hv, _⟩ := dx.get (List.getElem?_eq_getElem hi)
    exact ⟨vs, v, s.tupH (e _ _ ha), hv⟩
  · obtain ⟨T, p, rfl, nT, rfl, f1⟩ := y
    obtain ⟨c1, e1, rfl⟩ := enumD_get hi
    obtain ⟨v, hv, dv⟩ := dx.get e1
    have z1 := f1 vs (s.tupH (e _ _ ha))
    rw [hv] at z1
    cases z1
    exact ⟨_, Ex.new1 s nT, s.new nT, .tup upd_same (.cons (.int _) (.cons ((dv.mono e).mono (Ex.new1 s nT)) .nil))⟩
  · rw [enumD_len] at hi
    exact ⟨vs, s.tupH (e _ _ ha), by rw [dx.len]; exact hi.symm⟩
theorem itd_enL {G : Hp} {a : Addr} {vs : List V} {xs : List Dt} (ha : G a = some (.lst vs)) (dx : Dens K G vs xs) : ItD K (Ite K a) (enumD xs) G := by
  refine ⟨fun i G1 R F H e s hi => ?_, fun i G1 R F H d e s hi x H' y => ?_, fun i G1 R F H e s hi => ?_⟩
  · rw [enumD_len] at hi
    obtain ⟨v, hv, _⟩ := dx.get (List.getElem?_eq_getElem hi)
    exact ⟨vs, v, s.lstH (e _ _ ha), hv⟩
  · obtain ⟨T, p, rfl, nT, rfl, f1⟩ := y
    obtain ⟨c1, e1, rfl⟩ := enumD_get hi
    obtain ⟨v, hv, dv⟩ := dx.get e1
    have z1 := f1 vs (s.lstH (e _ _ ha))
    rw [hv] at z1
    cases z1
    exact ⟨_, Ex.new1 s nT, s.new nT, .tup upd_same (.cons (.int _) (.cons ((dv.mono e).mono (Ex.new1 s nT)) .nil))⟩
  · rw [enumD_len] at hi
    exact ⟨vs, s.lstH (e _ _ ha), by rw [dx.len]; omega⟩
theorem ei_enT {c : Nat} {tr : TA} {Qs : List Dt → Prop} (h : EvA K I c tr Δ Qs) (hp : ∀ ds, Qs ds → ∃ xs, ds = [.tup xs] ∧ Ps (enumD xs)) : EvI K I c (EnT.iEnT K tr) Δ Ps := fun m σ G F R H mb e i s Q q =>
  h m σ G F R H mb e i s _ fun vs ds G1 R1 H1 e1 i1 s1 d1 p1 => by
    obtain ⟨xs, rfl, hP⟩ := hp ds p1
    cases d1 with
    | cons da dn =>
      cases dn
      cases da with
      | tup ha dx => exact ⟨_, _, rfl, s1.tupH ha, q _ _ G1 R1 H1 e1 i1 s1 (itd_enT ha dx) hP⟩
theorem ei_enL {c : Nat} {tr : TA} {Qs : List Dt → Prop} (h : EvA K I c tr Δ Qs) (hp : ∀ ds, Qs ds → ∃ xs, ds = [.lst xs] ∧ Ps (enumD xs)) : EvI K I c (iEnum K tr) Δ Ps := fun m σ G F R H mb e i s Q q =>
  h m σ G F R H mb e i s _ fun vs ds G1 R1 H1 e1 i1 s1 d1 p1 => by
    obtain ⟨xs, rfl, hP⟩ := hp ds p1
    cases d1 with
    | cons da dn =>
      cases dn
      cases da with
      | lst ha dx => exact ⟨_, _, rfl, s1.lstH ha, q _ _ G1 R1 H1 e1 i1 s1 (itd_enL ha dx) hP⟩
end
end Fw
set_option Elab.async false
set_option linter.all false
set_option maxRecDepth 100000
set_option maxHeartbeats 4000000
namespace Fw
open PySem PySem.Spec PyProof.Rows L2
open Evl (Ex)
/-! ### calls of the text's own defs -/
structure Cal (P : Program) (w : World) (K : PySem.W.Frag) (mg : Str → Option Value) (base : Heap) (k : Nat) (x : Str) (ps : List Str) (sp : Sp) : Prop where
  ex : ∃ (f : Addr) (fd : FuncData), FnOk P w K mg base CX0 k f fd ps sp ∧ mg x = some (.ref f) ∧ PySem.W.keepIn K (.ref f) = true ∧ Binds K fd ps []
theorem cal_mk {P : Program} {w : World} {K : PySem.W.Frag} {mg : Str → Option Value} {base : Heap} {k : Nat} {x qual : Str} {ps : List Str} {sp : Sp} {st : Stmt} {f : Addr} {fd : FuncData} (F : Fun K x qual st f fd) (G : FnOk P w K mg base CX0 k f fd ps sp) (hm : mg x = some (.ref f)) (b : Binds K fd ps []) : Cal P w K mg base k x ps sp :=
  ⟨f, fd, G, hm, F.kp, b⟩
theorem pe_cal {X : Cx} {k : Nat} {x : Str} {ps : List Str} {sp : Sp} {e : Expr} {es : List Expr} {t : TA} {p pos : Pos} (C : Cal X.prog X.w X.K X.mg X.base k x ps sp) (hr : Room k X.A) (hg : Gl X x) (ha : PA X (e :: es) t)
    (h1 : (x == ("__debug__" : Str)) = false := by decide) (h2 : starEach (e :: es) X.env = (false, eval e X.env) :: starEach es X.env := by rfl) (h3 : (backTo pos (starEach es X.env)).any (·.1) = false := by rfl) :
    PE X (.Call (.Name x p) (e :: es) [] pos) (tCall sp [] E0 t) := by
  obtain ⟨f, fd, F, hm, hk, hb⟩ := C.ex
  exact pe_call F hr hg hm hk hb .nil pass0 ha h1 h2 h3
theorem pe_gint {X : Cx} {x : Str} {n : Int} {pos : Pos} (h : ∃ t, X.mg x = some (.int n t)) (hg : Gl X x) (hd : (x == ("__debug__" : Str)) = false := by decide) : PE X (.Name x pos) (tC (.int n)) := by
  obtain ⟨t, e⟩ := h
  exact pe_glob hg e ⟨t, rfl⟩ hd
/-! ### values that are data throughout -/
mutual
def valD : Dt → Bool
  | .ptr _ => false
  | .cls _ => false
  | .scr _ => false
  | .lst xs => valDs xs
  | .tup xs => valDs xs
  | .non | .bl _ | .int _ | .str _ | .dic => true
def valDs : List Dt → Bool
  | [] => true
  | x :: xs => valD x && valDs xs
end
theorem valD.plain : ∀ {d : Dt}, valD d = true → plainD d = true
  | .ptr _, h => h
  | .cls _, h => h
  | .scr _, h => h
  | .lst _, _ => rfl
  | .tup _, _ => rfl
  | .non, _ => rfl
  | .bl _, _ => rfl
  | .int _, _ => rfl
  | .str _, _ => rfl
  | .dic, _ => rfl
theorem valDs_mem : ∀ {xs : List Dt}, valDs xs = true → ∀ x ∈ xs, valD x = true
  | [], _, _, h => by cases h
  | y :: ys, h, x, hx => by
    have h2 : (valD y && valDs ys) = true := h
    rw [Bool.and_eq_true] at h2
    rcases List.mem_cons.mp hx with e | e
    · subst e
      exact h2.1
    · exact valDs_mem h2.2 x e
theorem valD_tup {xs : List Dt} (h : valD (.tup xs) = true) : ∀ x ∈ xs, valD x = true := valDs_mem h
theorem valDs_of : ∀ {xs : List Dt}, (∀ x ∈ xs, valD x = true) → valDs xs = true
  | [], _ => rfl
  | y :: ys, h => by
    show (valD y && valDs ys) = true
    rw [h y List.mem_cons_self, valDs_of fun x hx => h x (List.mem_cons_of_mem _ hx)]
    rfl
/-! ### levels, settings, tables -/
abbrev TOPI : Int := 1000000000000
def isIntD : Dt → Bool
  | .int _ => true
  | _ => false
def isLevD : Dt → Bool
  | .int i => decide (0 ≤ i) && decide (i ≤ TOPI)
  | _ => false
def isTupN (d : Dt) (n : Int) : Bool := match d with
  | .tup xs => decide ((xs.length : Int) = n)
  | _ => false
def areLevD (d : Dt) (n : Int) : Bool := match d with
  | .tup xs => decide ((xs.length : Int) = n) && xs.all isLevD
  | _ => false
abbrev vec (v : List Int) : Dt := .tup (iL v)
abbrev tbl (t : List (List Int)) : Dt := .tup (t.map fun r => vec r)
theorem kit_int {d : Dt} (h : plainD d = true) : kitB (tyN d) "int" = some (isIntD d || (match d with | .bl _ => true | _ => false)) := by
  cases d <;> first | (cases h; done) | (simp only [tyN, isIntD]; decide +kernel)
theorem kit_bool {d : Dt} (h : plainD d = true) : kitB (tyN d) "bool" = some (match d with | .bl _ => true | _ => false) := by
  cases d <;> first | (cases h; done) | (simp only [tyN]; decide +kernel)
def isTupD : Dt → Bool
  | .tup _ => true
  | _ => false
theorem kit_tup {d : Dt} (h : plainD d = true) : kitB (tyN d) "tuple" = some (isTupD d) := by
  cases d <;> first | (cases h; done) | (simp only [tyN, isTupD]; decide +kernel)
end Fw
set_option Elab.async false
set_option linter.all false
set_option maxRecDepth 100000
set_option maxHeartbeats 4000000
namespace Fw
open PySem PySem.Spec PyProof.Rows L2
open Evl (Ex)
/-! ### the same where the parts are known -/
section
variable {K : PySem.W.Frag} {I : Res} {Δ : Sl} {ta tb tc te : TE} {t u : TT} {P : Dt → Prop} {x y z : Dt} {c1 c2 c3 : Nat} {tr : TA} {ds es : List Dt} {b : Bool} {N : Sl → Prop} {Rt : Dt → Prop} {s1 s2 s3 : TS}
theorem e_op {r : R2} (ha : Ev K I c1 ta Δ (· = x)) (hb : Ev K I c2 tb Δ (· = y)) (hr : OpD K r x y P) : Ev K I (c1 + c2) (tOp r ta tb) Δ P := ev_op ha hb fun _ _ e1 e2 => by
  subst e1 e2
  exact hr
theorem e_un {r : V → Hp → VK → Prop} (ha : Ev K I c1 ta Δ (· = x)) (hr : UnD K r x P) : Ev K I c1 (tUn r ta) Δ P := ev_un ha fun _ e => by
  subst e
  exact hr
theorem a_nil : EvA K I 0 tNil Δ (· = []) := ea_nil
theorem a_cons (ha : Ev K I c1 ta Δ (· = x)) (hr : EvA K I c2 tr Δ (· = es)) : EvA K I (c1 + c2) (tCons ta tr) Δ (· = x :: es) := fun m σ G F R H mb e i s Q q =>
  ea_cons ha hr m σ G F R H mb e i s Q fun vs ds G' R' H' e' i' s' d' p' => by
    obtain ⟨_, _, rfl, rfl, rfl⟩ := p'
    exact q _ _ G' R' H' e' i' s' d' rfl
theorem e_cb {r : List V → Hp → VK → Prop} (ha : EvA K I c1 tr Δ (· = ds)) (hr : CallD K r ds P) : Ev K I c1 (tCB r tr) Δ P := ev_cb ha fun _ e => by
  subst e
  exact hr
theorem e_call {E : XK} {Io : List Dt → Res → Prop} {S : Spec} (ha : EvA K I c1 tr Δ (· = ds)) (hi : Io ds I) (hs : S ds c2 P) : Ev K I (c1 + c2) (tCall (mk K Io S) [] E tr) Δ P := ev_call ha fun _ e => by
  subst e
  exact ⟨hi, hs⟩
theorem e_tup (ha : EvA K I c1 tr Δ (· = ds)) (hl : ds.length ≤ sizeLine) : Ev K I c1 (tTup tr) Δ (· = .tup ds) := ev_tup ha fun _ e => by
  subst e
  exact ⟨hl, rfl⟩
theorem e_lst (ha : EvA K I c1 tr Δ (· = ds)) (hl : ds.length ≤ sizeLine) : Ev K I c1 (tLst tr) Δ (· = .lst ds) := ev_lst ha fun _ e => by
  subst e
  exact ⟨hl, rfl⟩
theorem t_test (h : Ev K I c1 te Δ (· = .bl b)) : EvT K I c1 (tTest te) Δ (· = b) := et_test h fun _ e => ⟨b, e, rfl⟩
theorem t_B (h : Ev K I c1 te Δ (· = .bl b)) : EvT K I c1 (tB te) Δ (· = b) := et_test h fun _ e => ⟨b, e, rfl⟩
theorem t_not (h : EvT K I c1 t Δ (· = b)) : EvT K I c1 (tNot t) Δ (· = !b) := et_not h fun _ e => by
  subst e
  rfl
theorem t_and {b2 : Bool} (h1 : EvT K I c1 t Δ (· = b)) (h2 : b = true → EvT K I c2 u Δ (· = b2)) : EvT K I (c1 + c2) (tAnd t u) Δ (· = (b && b2)) :=
  et_and h1 (fun e => (h2 e.symm).imp fun _ e2 => by
    subst e2
    rw [← e]
    rfl) (fun e => by rw [← e]; rfl)
theorem t_or {b2 : Bool} (h1 : EvT K I c1 t Δ (· = b)) (h2 : b = false → EvT K I c2 u Δ (· = b2)) : EvT K I (c1 + c2) (tOr t u) Δ (· = (b || b2)) :=
  et_or h1 (fun e => (h2 e.symm).imp fun _ e2 => by
    subst e2
    rw [← e]
    rfl) (fun e => by rw [← e]; rfl)
theorem e_and {b2 : Bool} (h1 : Ev K I c1 ta Δ (· = .bl b)) (h2 : b = true → Ev K I c2 tb Δ (· = .bl b2)) : Ev K I (c1 + c2) (tAndV ta tb) Δ (· = .bl (b && b2)) :=
  ev_andV (B := (· = b)) h1 (fun _ e => ⟨b, e, rfl⟩) (fun e => (h2 e.symm).imp fun _ e2 => by
    subst e2
    rw [← e]
    rfl) (fun e => by rw [← e]; rfl)
theorem e_or {b2 : Bool} (h1 : Ev K I c1 ta Δ (· = .bl b)) (h2 : b = false → Ev K I c2 tb Δ (· = .bl b2)) : Ev K I (c1 + c2) (tOrV ta tb) Δ (· = .bl (b || b2)) :=
  ev_orV (B := (· = b)) h1 (fun _ e => ⟨b, e, rfl⟩) (fun e => (h2 e.symm).imp fun _ e2 => by
    subst e2
    rw [← e]
    rfl) (fun e => by rw [← e]; rfl)
theorem e_not (h1 : Ev K I c1 ta Δ (· = .bl b)) : Ev K I c1 (tNotV ta) Δ (· = .bl !b) := ev_notV h1 fun _ e => ⟨b, e, rfl⟩
theorem e_if (h1 : EvT K I c1 t Δ (· = b)) (h2 : b = true → Ev K I c2 ta Δ P) (h3 : b = false → Ev K I c3 tb Δ P) : Ev K I (c1 + (c2 + c3)) (tIf t ta tb) Δ P := ev_if h1 (fun e => h2 e.symm) (fun e => h3 e.symm)
theorem e_chain {r r' : R2} {b2 : Bool} (ha : Ev K I c1 ta Δ (· = x)) (hb : Ev K I c2 tb Δ (· = y)) (hr : OpD K r x y (· = .bl b)) (hc : b = true → Ev K I c3 tc Δ (· = z)) (hr' : b = true → OpD K r' y z (· = .bl b2)) : Ev K I (c1 + c2 + c3) (tChain r r' ta tb tc) Δ (· = .bl (b && b2)) :=
  ev_chain (B := (· = b)) (P3 := (· = z)) ha hb (fun _ _ e1 e2 => by
    subst e1 e2
    exact fun v w G F R H s h1 h2 Q q => hr v w G F R H s h1 h2 Q fun zz d G' H' a1 a2 a3 a4 => q zz d G' H' a1 a2 a3 ⟨b, a4, rfl⟩) (fun e => hc e.symm) (fun _ _ e1 e2 e3 => by
    subst e1 e2
    exact fun v w G F R H s h1 h2 Q q => hr' e3.symm v w G F R H s h1 h2 Q fun zz d G' H' a1 a2 a3 a4 => q zz d G' H' a1 a2 a3 (by rw [a4, ← e3]; rfl)) (fun e => by rw [← e]; rfl)
/-- a chain as a test -/
theorem t_chain {r r' : R2} {b2 : Bool} (ha : Ev K I c1 ta Δ (· = x)) (hb : Ev K I c2 tb Δ (· = y)) (hr : OpD K r x y (· = .bl b)) (hc : b = true → Ev K I c3 tc Δ (· = z)) (hr' : b = true → OpD K r' y z (· = .bl b2)) : EvT K I (c1 + c2 + c3) (tTest (tChain r r' ta tb tc)) Δ (· = (b && b2)) :=
  t_test (e_chain ha hb hr hc hr')
theorem o_some {n : Int} (h : Ev K I c1 te Δ (· = .int n)) : EvO K I c1 (tPart te) Δ (· = some n) := eo_some h fun _ e => ⟨n, e, rfl⟩
theorem e_slT {tl th : TO} {lo hi : Option Int} {xs : List Dt} (ha : Ev K I c1 te Δ (· = .tup xs)) (hl : EvO K I c2 tl Δ (· = lo)) (hh : EvO K I c3 th Δ (· = hi)) : Ev K I (c1 + c2 + c3) (tSl (rSlA K) te tl th) Δ (· = .tup (cutD xs lo hi)) := ev_sl ha hl hh fun _ _ _ e1 e2 e3 => by
  subst e1 e2 e3
  exact sld_tup
theorem e_slL {tl th : TO} {lo hi : Option Int} {xs : List Dt} (ha : Ev K I c1 te Δ (· = .lst xs)) (hl : EvO K I c2 tl Δ (· = lo)) (hh : EvO K I c3 th Δ (· = hi)) : Ev K I (c1 + c2 + c3) (tSl (rSlL K) te tl th) Δ (· = .lst (cutD xs lo hi)) := ev_sl ha hl hh fun _ _ _ e1 e2 e3 => by
  subst e1 e2 e3
  exact sld_lst
theorem v_if (h1 : EvT K I c1 t Δ (· = b)) (h2 : b = true → Sv K I c2 s1 Δ N Rt) (h3 : b = false → Sv K I c3 s2 Δ N Rt) : Sv K I (c1 + (c2 + c3)) (tIfS t s1 s2) Δ N Rt := sv_if h1 (fun e => h2 e.symm) (fun e => h3 e.symm)
theorem v_ifs (h1 : EvT K I c1 t Δ (· = b)) (h2 : b = true → Sv K I c2 (tSeq s1 s3) Δ N Rt) (h3 : b = false → Sv K I c3 (tSeq s2 s3) Δ N Rt) : Sv K I (c1 + (c2 + c3)) (tSeq (tIfS t s1 s2) s3) Δ N Rt := sv_ifs h1 (fun e => h2 e.symm) (fun e => h3 e.symm)
/-- a raise that is not met -/
theorem v_no {s : TS} {c : Nat} (h : False) : Sv K I c s Δ N Rt := h.elim
theorem v_set {j : Nat} {w : TS} (h : Ev K I c1 te Δ P) (h2 : ∀ d, P d → Sv K I c2 w (Δ.set j (some d)) N Rt) : Sv K I (c1 + c2) (tSeq (tAsg te (gName j)) w) Δ N Rt := sv_seq (sv_set h) fun _ e => by
  obtain ⟨d, hd, rfl⟩ := e
  exact h2 d hd
theorem i_list {xs : List Dt} (h : Ev K I c1 te Δ (· = .lst xs)) : EvI K I c1 (iList K te) Δ (· = xs) := ei_list h fun _ e => ⟨xs, e, rfl⟩
theorem i_tup {xs : List Dt} (h : Ev K I c1 te Δ (· = .tup xs)) : EvI K I c1 (iTup K te) Δ (· = xs) := ei_tup h fun _ e => ⟨xs, e, rfl⟩
theorem i_rng {n : Int} (h : EvA K I c1 tr Δ (· = [.int n])) (h1 : -(2 ^ 62) ≤ n) (h2 : n < 2 ^ 62) : EvI K I c1 (iRng1 tr) Δ (· = rngD 0 n.toNat) := ei_rng1 h fun _ e => ⟨n, e, h1, h2, rfl⟩
theorem i_zip {xs ys : List Dt} (h : EvA K I c1 tr Δ (· = [.tup xs, .tup ys])) : EvI K I c1 (RZ.iZipA K tr) Δ (· = zipD xs ys) := ei_zip h fun _ e => ⟨xs, ys, .inl e, rfl⟩
theorem i_enT {xs : List Dt} (h : EvA K I c1 tr Δ (· = [.tup xs])) : EvI K I c1 (EnT.iEnT K tr) Δ (· = enumD xs) := ei_enT h fun _ e => ⟨xs, e, rfl⟩
/-- [e for x in its if ..] of known parts: f the answer for each item -/
theorem e_lc {c0 ct ce n : Nat} {wi : TI} {g : TG} {tt : TT} {vs js : List Nat} {its : List Dt} (hi : EvI K I c0 wi Δ (· = its)) (hl : its.length ≤ n) (hn : n ≤ sizeLine) (hj : ∀ j ∈ js, j ∈ vs) (f : Dt → Sl → Sl) (a : Dt → Option Dt)
    (hs : ∀ d ∈ its, GD K g js d (f d) ∧ ∃ b : Bool, EvT K I ct tt (f d (wipeD Δ vs)) (· = b) ∧ (b = false → a d = none) ∧ (b = true → Ev K I ce te (f d (wipeD Δ vs)) (fun e => a d = some e))) : Ev K I (c0 + n * (ct + ce)) (tLc wi g tt te vs) Δ (· = .lst (its.filterMap a)) :=
  ev_lc hi (fun _ e => by subst e; exact hl) hn hj f (fun d o => o = a d) (fun _ d e hd => by
    subst e
    obtain ⟨g1, b, g2, g3, g4⟩ := hs d hd
    exact ⟨g1, _, g2, fun e => (g3 e.symm).symm, fun e => (g4 e.symm).imp fun _ z => z.symm⟩) (fun _ os e h => by
    subst e
    rw [h.fn fun a b _ z => z, List.filterMap_map]
    rfl)
end
end Fw
set_option Elab.async false
set_option linter.all false
set_option maxRecDepth 100000
set_option maxHeartbeats 4000000
namespace Fw
open PySem PySem.Spec PyProof.Rows L2
open Evl (Ex)
section
variable {K : PySem.W.Frag} {I : Res} {Δ : Sl} {te : TE} {P : Dt → Prop} {c1 c2 c3 : Nat}
theorem Ev.to {x y : Dt} (h : Ev K I c1 te Δ (· = x)) (e : x = y) : Ev K I c1 te Δ (· = y) := e ▸ h
theorem e_map {c0 ce n : Nat} {wi : TI} {g : TG} {vs js : List Nat} {its : List Dt} (f : Dt → Sl → Sl) (a : Dt → Dt) (hi : EvI K I c0 wi Δ (· = its)) (hl : its.length ≤ n) (hn : n ≤ sizeLine) (hj : ∀ j ∈ js, j ∈ vs)
    (hs : ∀ d ∈ its, GD K g js d (f d) ∧ Ev K I ce te (f d (wipeD Δ vs)) (· = a d)) : Ev K I (c0 + n * (0 + ce)) (tLc wi g tYes te vs) Δ (· = .lst (its.map a)) :=
  (e_lc hi hl hn hj f (fun d => some (a d)) fun d hd => ⟨(hs d hd).1, true, et_yes, fun e => (by cases e), fun _ => (hs d hd).2.imp fun _ e => by rw [e]⟩).imp fun _ e => by
    rw [e, List.filterMap_eq_map']
/-- drawn elements -/
theorem e_draw {c0 ce n : Nat} {wi : TI} {g : TG} {vs js : List Nat} {its : List Dt} (f : Dt → Sl → Sl) (Pe : Dt → Prop) (hi : EvI K I c0 wi Δ (· = its)) (hl : its.length ≤ n) (hn : n ≤ sizeLine) (hj : ∀ j ∈ js, j ∈ vs)
    (hs : ∀ d ∈ its, GD K g js d (f d) ∧ Ev K I ce te (f d (wipeD Δ vs)) Pe) : Ev K I (c0 + n * (0 + ce)) (tLc wi g tYes te vs) Δ (fun r => ∃ xs : List Dt, r = .lst xs ∧ xs.length = its.length ∧ ∀ x ∈ xs, Pe x) :=
  ev_lc (St := fun _ o => ∃ x, o = some x ∧ Pe x) hi (fun _ e => by subst e; exact hl) hn hj f (fun its' d e hd => by
    subst e
    exact ⟨(hs d hd).1, _, et_yes, fun e => (by cases e), fun _ => (hs d hd).2.imp fun x p => ⟨x, rfl, p⟩⟩) fun its' os e h => by
    subst e
    refine ⟨_, rfl, ?_, fun x hx => ?_⟩
    · have hl := h.len
      have key : ∀ {as : List Dt} {os : List (Option Dt)}, All2 (fun _ o => ∃ x, o = some x ∧ Pe x) as os → (os.filterMap id).length = os.length := fun h => by
        induction h with
        | nil => rfl
        | cons p _ ih =>
          obtain ⟨x, rfl, _⟩ := p
          simp only [List.filterMap_cons, id, List.length_cons, ih]
      rw [key h, ← hl]
    · obtain ⟨o, ho, e⟩ := List.mem_filterMap.mp hx
      obtain ⟨_, _, y, rfl, p⟩ := h.mem o ho
      cases e
      exact p
end
/-! ### numbers -/
def mx : List Int → Int
  | [] => 0
  | x :: xs => xs.foldl max x
theorem foldl_max : ∀ (xs : List Int) (a : Int), (xs.foldl max a = a ∨ xs.foldl max a ∈ xs) ∧ a ≤ xs.foldl max a ∧ ∀ y ∈ xs, y ≤ xs.foldl max a
  | [], a => ⟨.inl rfl, Int.le_refl _, fun y h => by cases h⟩
  | x :: xs, a => by
    obtain ⟨h1, h2, h3⟩ := foldl_max xs (max a x)
    show (xs.foldl max (max a x) = a ∨ xs.foldl max (max a x) ∈ x :: xs) ∧ a ≤ xs.foldl max (max a x) ∧ ∀ y ∈ x :: xs, y ≤ xs.foldl max (max a x)
    refine ⟨?_, by omega, fun y hy => ?_⟩
    · rcases h1 with h1 | h1
      · by_cases h : a ≤ x
        · right
          rw [h1, Int.max_eq_right h]
          exact List.mem_cons_self
        · left
          rw [h1, Int.max_eq_left (by omega)]
      · exact .inr (List.mem_cons_of_mem _ h1)
    · rcases List.mem_cons.mp hy with e | e
      · subst e
        omega
      · exact h3 y e
theorem mx_mem {xs : List Int} (h : xs ≠ []) : mx xs ∈ xs := by
  cases xs with
  | nil => exact absurd rfl h
  | cons x xs =>
    rcases (foldl_max xs x).1 with e | e
    · show xs.foldl max x ∈ x :: xs
      rw [e]
      exact List.mem_cons_self
    · exact List.mem_cons_of_mem _ e
theorem mx_ge {xs : List Int} : ∀ y ∈ xs, y ≤ mx xs := by
  cases xs with
  | nil => intro y h; cases h
  | cons x xs =>
    intro y hy
    rcases List.mem_cons.mp hy with e | e
    · subst e
      exact (foldl_max xs y).2.1
    · exact (foldl_max xs x).2.2 y e
theorem mx_of {xs : List Int} {m : Int} (h1 : m ∈ xs) (h2 : ∀ y ∈ xs, y ≤ m) : m = mx xs :=
  Int.le_antisymm (mx_ge m h1) (h2 _ (mx_mem (List.ne_nil_of_mem h1)))
theorem mx_le {xs : List Int} {c : Int} (h0 : 0 ≤ c) (h : ∀ y ∈ xs, y ≤ c) : mx xs ≤ c := by
  by_cases e : xs = []
  · subst e
    exact h0
  · exact h _ (mx_mem e)
def mnD (xs : List Int) (d : Int) : Int := match xs with
  | [] => d
  | x :: xs => xs.foldl min x
theorem foldl_min : ∀ (xs : List Int) (a : Int), (xs.foldl min a = a ∨ xs.foldl min a ∈ xs) ∧ xs.foldl min a ≤ a ∧ ∀ y ∈ xs, xs.foldl min a ≤ y
  | [], a => ⟨.inl rfl, Int.le_refl _, fun y h => by cases h⟩
  | x :: xs, a => by
    obtain ⟨h1, h2, h3⟩ := foldl_min xs (min a x)
    show (xs.foldl min (min a x) = a ∨ xs.foldl min (min a x) ∈ x :: xs) ∧ xs.foldl min (min a x) ≤ a ∧ ∀ y ∈ x :: xs, xs.foldl min (min a x) ≤ y
    refine ⟨?_, by omega, fun y hy => ?_⟩
    · rcases h1 with h1 | h1
      · by_cases h : x ≤ a
        · right
          rw [h1, Int.min_eq_right h]
          exact List.mem_cons_self
        · left
          rw [h1, Int.min_eq_left (by omega)]
      · exact .inr (List.mem_cons_of_mem _ h1)
    · rcases List.mem_cons.mp hy with e | e
      · subst e
        omega
      · exact h3 y e
theorem mnD_mem {xs : List Int} {d : Int} (h : xs ≠ []) : mnD xs d ∈ xs := by
  cases xs with
  | nil => exact absurd rfl h
  | cons x xs =>
    rcases (foldl_min xs x).1 with e | e
    · show xs.foldl min x ∈ x :: xs
      rw [e]
      exact List.mem_cons_self
    · exact List.mem_cons_of_mem _ e
theorem mnD_le {xs : List Int} {d : Int} : ∀ y ∈ xs, mnD xs d ≤ y := by
  cases xs with
  | nil => intro y h; cases h
  | cons x xs =>
    intro y hy
    rcases List.mem_cons.mp hy with e | e
    · subst e
      exact (foldl_min xs y).2.1
    · exact (foldl_min xs x).2.2 y e
theorem mnD_of {xs : List Int} {m d : Int} (h1 : m ∈ xs) (h2 : ∀ y ∈ xs, m ≤ y) : m = mnD xs d :=
  Int.le_antisymm (h2 _ (mnD_mem (List.ne_nil_of_mem h1))) (mnD_le m h1)
def rowLev (r v : List Int) : Int := mx (List.zipWith min r v)
def levs (t : List (List Int)) (v : List Int) : List Int := t.map fun r => rowLev r v
structure isT (n : Nat) (t : List (List Int)) : Prop where
  ne : t ≠ []
  le : t.length ≤ 6
  n1 : 1 ≤ n
  n6 : n ≤ 6
  row : ∀ r ∈ t, r.length = n
  lev : ∀ r ∈ t, ∀ x ∈ r, 0 ≤ x ∧ x ≤ TOPI
structure isV (n : Nat) (v : List Int) : Prop where
  len : v.length = n
  lev : ∀ x ∈ v, 0 ≤ x ∧ x ≤ TOPI
theorem val_vec (v : List Int) : valD (vec v) = true := valDs_of fun x hx => by
  obtain ⟨i, _, rfl⟩ := List.mem_map.mp hx
  rfl
theorem areLev_vec {v : List Int} {n : Nat} : areLevD (vec v) n = true ↔ isV n v := by
  show (decide (((iL v).length : Int) = n) && (iL v).all isLevD) = true ↔ _
  rw [Bool.and_eq_true, decide_eq_true_eq, List.length_map, List.all_map, List.all_eq_true]
  constructor
  · intro ⟨h1, h2⟩
    refine ⟨by omega, fun x hx => ?_⟩
    have h3 : (decide (0 ≤ x) && decide (x ≤ TOPI)) = true := h2 x hx
    rw [Bool.and_eq_true, decide_eq_true_eq, decide_eq_true_eq] at h3
    exact h3
  · intro h
    refine ⟨by rw [h.len], fun x hx => ?_⟩
    show (decide (0 ≤ x) && decide (x ≤ TOPI)) = true
    rw [Bool.and_eq_true, decide_eq_true_eq, decide_eq_true_eq]
    exact h.lev x hx
end Fw
set_option Elab.async false
set_option linter.all false
set_option maxRecDepth 100000
set_option maxHeartbeats 4000000
namespace Fw
open PySem PySem.Spec PyProof.Rows L2
section
variable (K : PySem.W.Frag) {X : Cx}
theorem ixs (h : X.K = K := by rfl) : IxR X (rIx K) := h ▸ ix_seq
theorem lenK (h : X.K = K := by rfl) : CallR X (.builtin "len") (rLenQ K) := h ▸ call_lenQ
theorem listK (h : X.K = K := by rfl) : CallR X (.type "list") (rListQ K) := h ▸ call_listQ
theorem tupleK (h : X.K = K := by rfl) : CallR X (.type "tuple") (rTupleQ K) := h ▸ call_tupleQ
theorem allK (hc : X.calm = true := by rfl) (h : X.K = K := by rfl) : CallR X (.builtin "all") (rAll K) := h ▸ cr_all hc
theorem anyK (hc : X.calm = true := by rfl) (h : X.K = K := by rfl) : CallR X (.builtin "any") (rAny K) := h ▸ cr_any hc
theorem sumK (hc : X.calm = true := by rfl) (h : X.K = K := by rfl) : CallR X (.builtin "sum") (rSum K) := h ▸ cr_sum hc
theorem maxK (hc : X.calm = true := by rfl) (h : X.K = K := by rfl) : CallR X (.builtin "max") (rMax K) := h ▸ cr_max hc
theorem minK (hc : X.calm = true := by rfl) (h : X.K = K := by rfl) : CallR X (.builtin "min") (rMin K) := h ▸ cr_min hc
theorem minDK (hc : X.calm = true := by rfl) (h : X.K = K := by rfl) : CallRK X (.builtin "min") [Str.ofString "default"] (rMinD K) := h ▸ cr_minD hc
theorem isiK (h : X.K = K := by rfl) : CallR X (.builtin "isinstance") (rIsi K) := h ▸ call_isi
theorem isiTK (h : X.K = K := by rfl) : CallR X (.builtin "isinstance") (rIsiT K) := h ▸ call_isiT
theorem slT (h : X.K = K := by rfl) : SlR X (rSlA K) := h ▸ sl_tupA
theorem slL (h : X.K = K := by rfl) : SlR X (rSlL K) := h ▸ sl_list
theorem catT (h : X.K = K := by rfl) : OpR X (binaryOp .Add) (rCatA K) := h ▸ op_catA
theorem repT (h : X.K = K := by rfl) : OpR X (binaryOp .Mult) (rRepT K) := h ▸ op_repT
theorem eqK (hu : X.A.units + 64 < cLine) (h : X.K = K := by rfl) : OpR X (compareOp .Eq) (rEqD K) := h ▸ op_eqD hu
theorem neK (hu : X.A.units + 64 < cLine) (h : X.K = K := by rfl) : OpR X (compareOp .NotEq) (rNeD K) := h ▸ op_neD hu
theorem piL {tg l : Expr} {tl : TE} (hl : PE X l tl) (h : X.K = K := by rfl) : PI X tg l (iList K tl) := h ▸ pi_list hl
theorem piT {tg l : Expr} {tl : TE} (hl : PE X l tl) (h : X.K = K := by rfl) : PI X tg l (iTup K tl) := h ▸ pi_tup hl
theorem piZ {e e2 : Expr} {ta : TA} {p pos tpos : Pos} {elts : List Expr} {kk : Nat} (hg : Gl X "zip") (hm : X.mg "zip" = none) (ha : PA X [e, e2] ta) (h : X.K = K := by rfl)
    (h1 : starEach [e, e2] X.env = (false, eval e X.env) :: starEach [e2] X.env := by rfl) (h2 : (backTo pos (starEach [e2] X.env)).any (·.1) = false := by rfl) :
    PI X (.Tuple elts kk tpos) (.Call (.Name "zip" p) [e, e2] [] pos) (RZ.iZipA K ta) := h ▸ RZ.pi_zipA hg hm ha h1 h2
theorem piE {e : Expr} {ta : TA} {p pos tpos : Pos} {elts : List Expr} {kk : Nat} (hg : Gl X "enumerate") (hm : X.mg "enumerate" = none) (ha : PA X [e] ta) (h : X.K = K := by rfl) (h1 : starEach [e] X.env = [(false, eval e X.env)] := by rfl) :
    PI X (.Tuple elts kk tpos) (.Call (.Name "enumerate" p) [e] [] pos) (EnT.iEnT K ta) := h ▸ EnT.pi_enT hg hm ha h1
theorem piEL {e : Expr} {ta : TA} {p pos tpos : Pos} {elts : List Expr} {kk : Nat} (hg : Gl X "enumerate") (hm : X.mg "enumerate" = none) (ha : PA X [e] ta) (h : X.K = K := by rfl) (h1 : starEach [e] X.env = [(false, eval e X.env)] := by rfl) :
    PI X (.Tuple elts kk tpos) (.Call (.Name "enumerate" p) [e] [] pos) (iEnum K ta) := h ▸ pi_enum hg hm ha h1
end
end Fw
set_option Elab.async false
set_option linter.all false
set_option maxRecDepth 100000
set_option maxHeartbeats 4000000
namespace Fw
open PySem PySem.Spec PyProof.Rows L2
open Evl (Ex)
/-! ### the deck -/
structure DkAt (a : Addr) (m : Nat) (R : Hp) (b c : Addr) (L0 L1 : List Int) (n : Nat) : Prop where
  top : R a = some (.lst [.ref b, .ref c, .int (n : Nat)])
  big : R b = some (.lst (L0.map V.int))
  all : R c = some (.lst (L1.map V.int))
  bc : b ≠ c
  ne : L1 ≠ []
  l0 : L0.length ≤ 1000
  l1 : L1.length ≤ 1000
  pos : ∀ x ∈ L1, 0 ≤ x
  le : n ≤ m
def DkI (a : Addr) : Res where
  p := fun m R => ∃ b c L0 L1 n, DkAt a m R b c L0 L1 n
  mono := fun h ⟨b, c, L0, L1, n, d⟩ => ⟨b, c, L0, L1, n, { d with le := Nat.le_trans d.le h }⟩
section
variable {G R F H : Hp} {p : Addr} {o : HO}
/-- what is owned changes -/
theorem Sp3.setR {o' : HO} (s : Sp3 G R F H) (h : R p = some o) : Sp3 G (upd R p o') F (upd H p o') := by
  have hg : G p = none := by
    rcases s.gr p with z | z
    · exact z
    · rw [h] at z
      cases z
  have hf : F p = none := by
    rcases s.rf p with z | z
    · rw [h] at z
      cases z
    · exact z
  refine ⟨fun a u e => ?_, fun a u e => ?_, fun a u e => ?_, fun a => ?_, s.gf, fun a => ?_⟩
  · have ha : a ≠ p := ne_of_none e hg
    rw [upd_ne ha]
    exact s.g a u e
  · by_cases ha : a = p
    · subst ha
      rw [upd_same] at e ⊢
      exact e
    · rw [upd_ne ha] at e ⊢
      exact s.r a u e
  · have ha : a ≠ p := ne_of_none e hf
    rw [upd_ne ha]
    exact s.f a u e
  · by_cases ha : a = p
    · subst ha
      exact .inl hg
    · rw [upd_ne ha]
      exact s.gr a
  · by_cases ha : a = p
    · subst ha
      exact .inr hf
    · rw [upd_ne ha]
      exact s.rf a
/-- an object that nobody keeps -/
theorem Sp3.junk (s : Sp3 G R F H) (h : H p = none) : Sp3 G R F (upd H p o) := by
  refine ⟨fun a u e => ?_, fun a u e => ?_, fun a u e => ?_, s.gr, s.gf, s.rf⟩
  · rw [upd_ne (ne_of_none (s.g a u e) h)]
    exact s.g a u e
  · rw [upd_ne (ne_of_none (s.r a u e) h)]
    exact s.r a u e
  · rw [upd_ne (ne_of_none (s.f a u e) h)]
    exact s.f a u e
end
theorem DkAt.ab {a b c : Addr} {m n : Nat} {R : Hp} {L0 L1 : List Int} (d : DkAt a m R b c L0 L1 n) : a ≠ b := fun e => by
  have h1 := d.top
  rw [e, d.big] at h1
  cases L0 with
  | nil => cases h1
  | cons x l => cases h1
theorem DkAt.ac {a b c : Addr} {m n : Nat} {R : Hp} {L0 L1 : List Int} (d : DkAt a m R b c L0 L1 n) : a ≠ c := fun e => by
  have h1 := d.top
  rw [e, d.all] at h1
  cases L1 with
  | nil => cases h1
  | cons x l => cases h1
def nextS : Spec := fun ds c p => ∃ (a : Addr) (k : Int), ds = [.ptr a, .int k] ∧ 1 ≤ k ∧ k ≤ 10000000000000 ∧ c = 1 ∧ ∀ i : Int, 0 ≤ i → i < k → p (.int i)
def deckI : List Dt → Res → Prop := fun ds I => ∃ a r, ds = .ptr a :: r ∧ I = DkI a
theorem dp_ints {K : PySem.W.Frag} {H : Hp} {b : Addr} {L : List Int} (h : H b = some (.lst (L.map V.int))) : Dp K H (.ref b) (.list (L.map PyData.int)) := by
  refine .lst (.inl (.inl h)) ?_
  induction L with
  | nil => exact .nil
  | cons x l ih =>
    refine .cons (.int x) ?_
    have key : ∀ l : List Int, DpAll K H (l.map V.int) (l.map PyData.int) := fun l => by
      induction l with
      | nil => exact .nil
      | cons y l ih => exact .cons (.int y) ih
    exact key l
theorem shapedL (ns : List Int) : SeqAt.shaped (.list (ns.map PyData.int)) = true := by
  have h := shaped_lst ns
  rw [show toP (.lst (iL ns)) = .list (toPs (iL ns)) from rfl, toPs_ints] at h
  exact h
theorem ixN_0 (x : V) (l : List V) : ixN (x :: l).length 0 = some 0 := by
  unfold ixN
  rw [if_pos (by decide), if_pos (by rw [List.length_cons]; omega)]
  rfl
theorem seqIx_0 (x : V) (l : List V) : seqIndex? 0 (x :: l).length = some 0 := by
  unfold seqIndex?
  simp
theorem cdiv_big {i k : Int} (h1 : 1 ≤ k) (h2 : k ≤ 10000000000000) : CDivW i k := wide_div (b := 64) (by omega) (by
  have : k.natAbs ≤ 10000000000000 := by omega
  exact Nat.lt_of_le_of_lt this (by decide)) (by decide) (by decide)
end Fw
set_option Elab.async false
set_option linter.all false
set_option maxRecDepth 100000
set_option maxHeartbeats 4000000
namespace Fw
open PySem PySem.Spec PyProof.Rows L2
open Evl (Ex)
section
variable {K : PySem.W.Frag} {I : Res} {Δ : Sl} {ta te : TE} {P P' Pe : Dt → Prop} {c1 c2 : Nat} {tr : TA} {n : Nat} {xs : List Dt}
theorem OpD.imp {r : R2} {x y : Dt} (h : OpD K r x y P) (hp : ∀ d, P d → P' d) : OpD K r x y P' := fun v w G F R H s h1 h2 Q q => h v w G F R H s h1 h2 Q fun z d G' H' a b c p => q z d G' H' a b c (hp d p)
theorem CallD.imp {r : List V → Hp → VK → Prop} {ds : List Dt} (h : CallD K r ds P) (hp : ∀ d, P d → P' d) : CallD K r ds P' := fun vs G F R H s h1 Q q => h vs G F R H s h1 Q fun z d G' H' a b c p => q z d G' H' a b c (hp d p)
theorem p_nil : EvA K I 0 tNil Δ (fun ds => ds.length = 0 ∧ ∀ d ∈ ds, Pe d) := fun m σ G F R H mb e i s Q q => q _ _ G R H (Evl.Ex.refl _) i s .nil ⟨rfl, fun d h => by cases h⟩
theorem p_cons (ha : Ev K I c1 ta Δ Pe) (hr : EvA K I c2 tr Δ (fun ds => ds.length = n ∧ ∀ d ∈ ds, Pe d)) : EvA K I (c1 + c2) (tCons ta tr) Δ (fun ds => ds.length = n + 1 ∧ ∀ d ∈ ds, Pe d) := fun m σ G F R H mb e i s Q q =>
  ea_cons ha hr m σ G F R H mb e i s Q fun vs ds G' R' H' e' i' s' d' p' => by
    obtain ⟨x, ys, rfl, px, pl, pa⟩ := p'
    refine q _ _ G' R' H' e' i' s' d' ⟨by rw [List.length_cons, pl], fun d hd => ?_⟩
    rcases List.mem_cons.mp hd with z | z
    · subst z
      exact px
    · exact pa d z
/-- an item of a list by a drawn place -/
theorem opd_pick {i : Int} (h0 : 0 ≤ i) (h1 : i < xs.length) (hp : ∀ d ∈ xs, P d) : OpD K (rIx K) (.lst xs) (.int i) P := by
  have hl : i.toNat < xs.length := by omega
  have e : atI xs i = some xs[i.toNat] := by
    have z : ((i.toNat : Nat) : Int) = i := Int.toNat_of_nonneg h0
    have y : atI xs ((i.toNat : Nat) : Int) = some xs[i.toNat] := atI_nat (List.getElem?_eq_getElem hl)
    rw [z] at y
    exact y
  exact (opd_ix rfl e).imp fun d hd => by
    rw [hd]
    exact hp _ (List.getElem_mem hl)
theorem opd_pickT {i : Int} (h0 : 0 ≤ i) (h1 : i < xs.length) (hp : ∀ d ∈ xs, P d) : OpD K (rIx K) (.tup xs) (.int i) P := by
  have hl : i.toNat < xs.length := by omega
  have e : atI xs i = some xs[i.toNat] := by
    have z : ((i.toNat : Nat) : Int) = i := Int.toNat_of_nonneg h0
    have y : atI xs ((i.toNat : Nat) : Int) = some xs[i.toNat] := atI_nat (List.getElem?_eq_getElem hl)
    rw [z] at y
    exact y
  exact (opd_ix rfl e).imp fun d hd => by
    rw [hd]
    exact hp _ (List.getElem_mem hl)
theorem itd_scr {G : Hp} {a : Addr} {ns : List Int} (h : SqL K G a (ns.map V.int)) : ItD K (Itl K a) (iL ns) G := by
  refine ⟨fun i G1 R F H e s hi => ?_, fun i G1 R F H d e s hi x H' y => ?_, fun i G1 R F H e s hi => ?_⟩
  · rw [List.length_map] at hi
    exact ⟨_, .int ns[i], Evl.ex_l s.g (Evl.ex_l e h), by rw [List.getElem?_map, List.getElem?_eq_getElem hi]; rfl⟩
  · obtain ⟨rfl, hy⟩ := y
    have e2 := hy _ (Evl.ex_l s.g (Evl.ex_l e h))
    rw [List.getElem?_map] at hi e2
    cases q : ns[i]? with
    | none => rw [q] at hi; cases hi
    | some z =>
      rw [q] at hi e2
      cases hi
      cases e2
      exact ⟨G1, Evl.Ex.refl _, s, .int z⟩
  · rw [List.length_map] at hi
    exact ⟨_, Evl.ex_l s.g (Evl.ex_l e h), by rw [List.length_map]; omega⟩
theorem i_scr {ns : List Int} (h : Ev K I c1 te Δ (· = .scr ns)) : EvI K I c1 (iList K te) Δ (· = iL ns) := fun m σ G F R H mb e i s Q q =>
  h m σ G F R H mb e i s _ fun v d G1 R1 H1 e1 i1 s1 d1 p1 => by
    subst p1
    cases d1 with
    | scr hs => exact ⟨_, rfl, ⟨_, Evl.ex_l s1.g hs⟩, q _ _ G1 R1 H1 e1 i1 s1 (itd_scr hs) rfl⟩
end
def absL (ns : List Int) : List Int := ns.map fun x => (x.natAbs : Int)
def bigL (ns : List Int) : List Int := (absL ns).filter fun x => decide (1000000000000000000 ≤ x)
def deckD (ns : List Int) : Dt := .lst [.lst (iL (bigL ns)), .lst (iL (absL ns ++ [(ns.length : Int) + 3])), .int 0]
end Fw
set_option Elab.async false
set_option linter.all false
set_option maxRecDepth 100000
set_option maxHeartbeats 4000000
namespace Fw
open PySem PySem.Spec PyProof.Rows L2
open Evl (Ex)
section
variable {K : PySem.W.Frag} {I : Res} {Δ : Sl} {ta te : TE} {P P' : Dt → Prop} {c1 c2 : Nat} {tr : TA} {n : Nat} {xs : List Dt} {N : Sl → Prop} {Rt : Dt → Prop}
/-- drawn elements, by their items -/
theorem e_drawR {c0 ce n : Nat} {wi : TI} {g : TG} {vs js : List Nat} {its : List Dt} (f : Dt → Sl → Sl) (Pe : Dt → Dt → Prop) (hi : EvI K I c0 wi Δ (· = its)) (hl : its.length ≤ n) (hn : n ≤ sizeLine) (hj : ∀ j ∈ js, j ∈ vs)
    (hs : ∀ d ∈ its, GD K g js d (f d) ∧ Ev K I ce te (f d (wipeD Δ vs)) (Pe d)) : Ev K I (c0 + n * (0 + ce)) (tLc wi g tYes te vs) Δ (fun r => ∃ xs : List Dt, r = .lst xs ∧ All2 Pe its xs) :=
  ev_lc (St := fun d o => ∃ x, o = some x ∧ Pe d x) hi (fun _ e => by subst e; exact hl) hn hj f (fun its' d e hd => by
    subst e
    exact ⟨(hs d hd).1, _, et_yes, fun e => (by cases e), fun _ => (hs d hd).2.imp fun x p => ⟨x, rfl, p⟩⟩) fun its' os e h => by
    subst e
    refine ⟨_, rfl, ?_⟩
    have key : ∀ {as : List Dt} {os : List (Option Dt)}, All2 (fun d o => ∃ x, o = some x ∧ Pe d x) as os → All2 Pe as (os.filterMap id) := fun h => by
      induction h with
      | nil => exact .nil
      | cons p _ ih =>
        obtain ⟨x, rfl, px⟩ := p
        simp only [List.filterMap_cons, id]
        exact .cons px ih
    exact key h
theorem gd_three {j k l : Nat} {x y z : Dt} : GD K (gTup K 3 (gCons (gName j) (gCons (gName k) (gCons (gName l) gNil)))) [j, k, l] (.tup [x, y, z]) (fun Δ => ((Δ.set j (some x)).set k (some y)).set l (some z)) := fun σ Δ G R F H v e s hd Q q => by
  cases hd with
  | tup ha hs =>
    cases hs with
    | cons hx hs =>
      cases hs with
      | cons hy hs =>
        cases hs with
        | cons hz hn =>
          cases hn
          refine ⟨_, _, rfl, s.tupH ha, rfl, _, _, rfl, _, _, rfl, _, _, rfl, rfl, q _ (((e.set hx).set hy).set hz) fun vs hv => ?_⟩
          rw [wipe_set_mem (hv l (by simp)), wipe_set_mem (hv k (by simp)), wipe_set_mem (hv j (by simp))]
theorem sv_asg3 {j k l : Nat} (h : Ev K I c1 te Δ P) (h2 : ∀ d, P d → ∃ x y z, d = .tup [x, y, z] ∧ N (((Δ.set j (some x)).set k (some y)).set l (some z))) : Sv K I c1 (tAsg te (gTup K 3 (gCons (gName j) (gCons (gName k) (gCons (gName l) gNil))))) Δ N Rt := fun m σ G F R H mb e i s D q r =>
  h m σ G F R H mb e i s _ fun v d G' R' H' e' ii ss dd p => by
    obtain ⟨x, y, z, rfl, hN⟩ := h2 d p
    exact gd_three σ Δ G' R' F H' v (e.mono e') ss dd _ fun σ' e2 _ => q _ _ G' R' H' hN e' e2 ii ss
end
/-! ### the law's own beginning -/
def noI : Res where
  p := fun _ R => R = fun _ => none
  mono := fun _ h => h
def deckSp (K : PySem.W.Frag) : Sp := mk K anyI fun ds _ p => ∃ ns, ds = [.scr ns] ∧ ns.length ≤ 63 ∧ p (deckD ns)
def lawSp (K : PySem.W.Frag) : Sp := fun vs H Q _ => ∃ (a : Addr) (ns : List Int), vs = [.ref a] ∧ SqL K H a (ns.map V.int) ∧ ns.length ≤ 63 ∧ Only H ∧ ∀ H', Q (.bl true) H'
theorem abs_pos {ns : List Int} : ∀ x ∈ absL ns ++ [(ns.length : Int) + 3], 0 ≤ x := fun x hx => by
  rcases List.mem_append.mp hx with h | h
  · obtain ⟨i, _, rfl⟩ := List.mem_map.mp h
    omega
  · rcases List.mem_cons.mp h with e | e
    · subst e
      omega
    · cases e
theorem law_run {K : PySem.W.Frag} {N : List Str} {c : Nat} {t2 : TS} {s0 : Addr} {ns : List Int} {H : Hp} {Q : VK} {nx : L2.St → Hp → Prop} (hS : SqL K H s0 (ns.map V.int)) (hn : ns.length ≤ 63) (hO : Only H) (hq : ∀ H', Q (.bl true) H') (hc : c ≤ BIG) (hN : 2 ≤ N.length)
    (h2 : ∀ (a : Addr), Sv K (DkI a) c t2 (([Dt.scr ns].map some ++ List.replicate (N.length - 1) none).set 1 (some (.ptr a))) (fun _ => False) (· = .bl true)) :
    tSeq (tAsg (tCall (deckSp K) [] E0 (tCons (tVar 0) tNil)) (gName 1)) t2 { nx := nx, rt := Q } (start N [.ref s0]) H := by
  refine ⟨.ref s0, rfl, ?_⟩
  show deckSp K [.ref s0] H _ E0
  have sp0 : Sp3 H (fun _ => none) (fun _ => none) H := ⟨Evl.Ex.refl _, fun _ _ e => (by cases e), fun _ _ e => (by cases e), fun _ => .inr rfl, fun _ => .inr rfl, fun _ => .inr rfl⟩
  refine ⟨[.scr ns], noI, 0, 0, H, fun _ => none, fun _ => none, (· = deckD ns), .cons (.scr hS) .nil, trivial, Nat.zero_le _, rfl, sp0, ⟨ns, rfl, hn, rfl⟩, fun v d G' R' H' e _ s dd p => ?_⟩
  subst p
  cases dd with
  | @lst pa us _ hp hs =>
  cases hs with
  | cons d0 hs =>
  cases hs with
  | cons d1 hs =>
  cases hs with
  | cons d2 hs =>
  cases hs
  cases d2
  cases d0 with
  | @lst b bs _ hb db =>
  cases d1 with
  | @lst cc cs _ hcc dc =>
  have eb := db.ints
  have ec := dc.ints
  subst eb ec
  have hlen : (bigL ns).length ≤ ns.length := Nat.le_trans (List.length_filter_le _ _) (by unfold absL; rw [List.length_map]; exact Nat.le_refl _)
  have hne : b ≠ cc := fun z => by
    rw [z, hcc] at hb
    have y := congrArg (fun o => match o with | some (HO.lst l) => l.length | _ => 0) hb
    simp only [List.length_map, List.length_append, absL, List.length_cons, List.length_nil] at y
    omega
  have old : ∀ x o, H x = some o → x ≠ pa ∧ x ≠ b ∧ x ≠ cc := fun x o hx => by
    have g' := e x o hx
    rcases hO x with z | ⟨ob, xs, z⟩
    · rw [hx] at z
      cases z
    · rw [hx] at z
      cases z
      refine ⟨fun z => ?_, fun z => ?_, fun z => ?_⟩
      · rw [z, hp] at g'
        cases g'
      · rw [z, hb] at g'
        cases g'
      · rw [z, hcc] at g'
        cases g'
  have sp1 : Sp3 H (fun x => if x = pa ∨ x = b ∨ x = cc then G' x else none) (fun _ => none) H' := by
    refine ⟨fun x o hx => s.g x o (e x o hx), fun x o hx => ?_, fun _ _ z => (by cases z), fun x => ?_, fun _ => .inr rfl, fun _ => .inr rfl⟩
    · by_cases hi : x = pa ∨ x = b ∨ x = cc
      · simp only [if_pos hi] at hx
        exact s.g x o hx
      · simp only [if_neg hi] at hx
        cases hx
    · cases hx : H x with
      | none => exact .inl rfl
      | some o =>
        obtain ⟨n1, n2, n3⟩ := old x o hx
        right
        show (if x = pa ∨ x = b ∨ x = cc then G' x else none) = none
        rw [if_neg]
        rintro (z | z | z)
        · exact n1 z
        · exact n2 z
        · exact n3 z
  have dk : (DkI pa).p 0 (fun x => if x = pa ∨ x = b ∨ x = cc then G' x else none) := by
    refine ⟨b, cc, bigL ns, absL ns ++ [(ns.length : Int) + 3], 0, ?_, ?_, ?_, hne, by simp, by omega, ?_, abs_pos, Nat.le_refl _⟩
    · show (if pa = pa ∨ pa = b ∨ pa = cc then G' pa else none) = _
      rw [if_pos (.inl rfl)]
      exact hp
    · show (if b = pa ∨ b = b ∨ b = cc then G' b else none) = _
      rw [if_pos (.inr (.inl rfl))]
      exact hb
    · show (if cc = pa ∨ cc = b ∨ cc = cc then G' cc else none) = _
      rw [if_pos (.inr (.inr rfl))]
      exact hcc
    · rw [List.length_append]
      show (absL ns).length + 1 ≤ 1000
      unfold absL
      rw [List.length_map]
      omega
  have env : EnvD K H ((start N [.ref s0]).set 1 (some (.ref pa))) (([Dt.scr ns].map some ++ List.replicate (N.length - 1) none).set 1 (some (.ptr pa))) :=
    (EnvD.start (N := N) (.cons (.scr hS) .nil)).set (.ptr pa)
  exact h2 pa 0 _ H _ _ H' (by omega) env dk sp1 _ (fun _ _ _ _ _ z => z.elim) (fun v d G2 R2 H2 _ _ _ dd z => by
    subst z
    cases dd
    exact hq H2)
end Fw
set_option Elab.async false
set_option linter.all false
set_option maxRecDepth 100000
set_option maxHeartbeats 4000000
namespace Fw
open PySem PySem.Spec PyProof.Rows L2
open Evl (Ex)
theorem notInK (K : PySem.W.Frag) {X : Cx} (h : X.K = K := by rfl) : OpR X (compareOp .NotIn) (rIn K true) := h ▸ op_notIn_seq
theorem appK (K : PySem.W.Frag) {X : Cx} : MtR X "list.append" rAppend := mt_append
def isNI : Dt → Bool
  | .non => true
  | .int _ => true
  | _ => false
def memI (i : Int) (xs : List Dt) : Bool := xs.any fun d => match d with
  | .int k => decide (k = i)
  | _ => false
section
variable {K : PySem.W.Frag} {I : Res} {Δ : Sl} {te : TE} {P : Dt → Prop} {c1 c2 : Nat} {xs : List Dt} {i : Int} {N : Sl → Prop} {Rt : Dt → Prop}
theorem ni_flat {G : Hp} : ∀ {vs : List V} {ds : List Dt}, Dens K G vs ds → (∀ d ∈ ds, isNI d = true) → vs.all flatV = true ∧ inV (.int i) vs = memI i ds
  | _, _, .nil, _ => ⟨rfl, rfl⟩
  | _, _, .cons h hs, hn => by
    obtain ⟨h1, h2⟩ := ni_flat hs fun d hd => hn d (List.mem_cons_of_mem _ hd)
    have h3 := hn _ List.mem_cons_self
    unfold inV memI at h2 ⊢
    cases h with
    | non => exact ⟨by rw [List.all_cons, h1]; rfl, by rw [List.any_cons, List.any_cons, h2]; rfl⟩
    | int k =>
      refine ⟨by rw [List.all_cons, h1]; rfl, ?_⟩
      rw [List.any_cons, List.any_cons, h2]
      rfl
    | _ => cases h3
theorem opd_notIn (h : ∀ d ∈ xs, isNI d = true) : OpD K (rIn K true) (.int i) (.tup xs) (· = .bl (!memI i xs)) := fun v w G F R H s hv hw Q q => by
  cases hv
  cases hw with
  | tup ha hd =>
    obtain ⟨h1, h2⟩ := ni_flat (i := i) hd h
    refine ⟨_, _, rfl, .inr (s.tupH ha), rfl, h1, q _ _ G H (Evl.Ex.refl _) s ?_ rfl⟩
    rw [if_pos rfl, h2]
    exact .bl _
theorem EnvD.re {G : Hp} {σ : L2.St} {j : Nat} {v : V} {d : Dt} (h : EnvD K G σ Δ) (hv : σ[j]? = some (some v)) (hd : Den K G v d) : EnvD K G σ (Δ.set j (some d)) := ⟨by rw [List.length_set]; exact h.len, fun i d' hi => by
  by_cases e : j = i
  · subst e
    by_cases hj : j < Δ.length
    · rw [List.getElem?_set_self hj] at hi
      cases hi
      exact ⟨v, hv, hd⟩
    · rw [List.getElem?_eq_none (by simpa using hj)] at hi
      cases hi
  · rw [List.getElem?_set_ne e] at hi
    exact h.at' i d' hi⟩
/-- x = []; for ..: x.append(e) -/
theorem sv_acc {c0 ce n j : Nat} {wi : TI} {g : TG} {js : List Nat} {its : List Dt} {w : TS} {c3 : Nat} (f : Dt → Sl → Sl) (Pe : Dt → Dt → Prop) (J : Addr → Nat → Sl → Prop) (hjl : j < Δ.length)
    (hi : ∀ D, EvI K I c0 wi (Δ.set j (some (.ptr D))) (· = its)) (hl : its.length ≤ n) (hn : n ≤ sizeLine) (h0 : ∀ D, J D 0 (Δ.set j (some (.ptr D))))
    (hs : ∀ D k d Δ', its[k]? = some d → J D k Δ' → GD K g js d (f d) ∧ (f d Δ')[j]? = some (some (.ptr D)) ∧ Ev K I ce te (f d Δ') (Pe d) ∧ J D (k + 1) (f d Δ')) (hJ : ∀ D k Δ', J D k Δ' → Δ'[j]? = some (some (.ptr D)))
    (hN : ∀ D Δ' xs, J D its.length Δ' → All2 Pe its xs → Sv K I c3 w (Δ'.set j (some (.lst xs))) N Rt) :
    Sv K I (c0 + n * ce + c3) (tSeq (tAsg (tLst tNil) (gName j)) (tSeq (tFor wi g (tDrop (tBM K "list" rAppend (tVar j) (tCons te tNil)))) w)) Δ N Rt := fun m σ G F R H mb e i s D q r => by
  refine ⟨Nat.zero_le _, fun L hL => ?_⟩
  have hFL : F L = none := Ex.no s.f hL
  have env1 : EnvD K G (σ.set j (some (.ref L))) (Δ.set j (some (.ptr L))) := e.set (.ptr L)
  have s1 : Sp3 G R (upd F L (.lst [])) (upd H L (.lst [])) := s.newF hL
  refine hi L m _ G _ R _ (by omega) env1 i s1 _ fun Jt its' G1 R1 H1 e1 i1 s2 it pi => ?_
  subst pi
  have hmul : ∀ k, k ≤ its'.length → k * ce ≤ n * ce := fun k hk => Nat.mul_le_mul_right _ (Nat.le_trans hk hl)
  refine ⟨fun k x σ2 H2 => x = its'.length - k ∧ k ≤ its'.length ∧ ∃ Δ2 G2 R2 xs acc, Ex G1 G2 ∧ EnvD K G2 σ2 Δ2 ∧ I.p (m + c0 + k * ce) R2 ∧ Sp3 G2 R2 (upd F L (.lst acc)) H2 ∧ J L k Δ2 ∧ All2 Pe (its'.take k) xs ∧ Dens K G2 acc xs,
    ⟨its'.length, rfl, Nat.zero_le _, _, G1, R1, [], [], Evl.Ex.refl _, env1.mono e1, by rw [Nat.zero_mul]; exact i1, s2, h0 L, .nil, .nil⟩, ?_⟩
  rintro k x σ2 H2 ⟨rfl, hk, Δ2, G2, R2, xs, acc, e2, en2, i2, s3, j2, ao, da⟩
  by_cases hlt : k < its'.length
  · refine .inr ⟨it.go k G2 R2 _ H2 e2 s3 hlt, fun σ3 H3 => ∃ Δ3 G3 R3 xs acc, Ex G1 G3 ∧ EnvD K G3 σ3 Δ3 ∧ I.p (m + c0 + (k + 1) * ce) R3 ∧ Sp3 G3 R3 (upd F L (.lst acc)) H3 ∧ J L (k + 1) Δ3 ∧ All2 Pe (its'.take (k + 1)) xs ∧ Dens K G3 acc xs, fun σ3 H3 h3 => ?_, fun x H3 y => ?_⟩
    · exact ⟨its'.length - (k + 1), by omega, rfl, hlt, h3⟩
    · have hd : its'[k]? = some its'[k] := List.getElem?_eq_getElem hlt
      have hk1 := hmul (k + 1) hlt
      rw [Nat.succ_mul] at hk1
      have tk : its'.take (k + 1) = its'.take k ++ [its'[k]] := by rw [List.take_add_one, hd]; rfl
      obtain ⟨G3, e3, s4, dx⟩ := it.yld k G2 R2 _ H2 _ e2 s3 hd x H3 y
      obtain ⟨gd, hj, hev, j3⟩ := hs L k _ Δ2 hd j2
      refine gd σ2 Δ2 G3 R2 _ H3 x (en2.mono e3) s4 dx _ fun σ' env' _ => ?_
      obtain ⟨v, hv, dv⟩ := env'.at' _ _ hj
      cases dv
      have hLs : H3 L = some (.lst acc) := s4.f L _ upd_same
      refine ⟨.ref L, hv, .inl ⟨rfl, acc, .inl (.inl hLs)⟩, ?_⟩
      refine hev _ σ' G3 _ R2 H3 (by omega) env' i2 s4 _ fun y dy G5 R5 H5 e5 i5 s5 d5 p5 => ?_
      have hacc : acc.length < sizeLine := by
        have h1 := da.len
        have h3 := ao.len
        rw [List.length_take] at h3
        omega
      refine ⟨L, acc, y, rfl, rfl, s5.f L _ upd_same, hacc, f its'[k] Δ2, G5, R5, xs ++ [dy], acc ++ [y], ((e2.trans e3).trans e5), env'.mono e5, I.mono (by rw [Nat.succ_mul]; omega) i5, s5.setF, j3, ?_, ?_⟩
      · rw [tk]
        exact ao.snoc p5
      · exact ((da.mono e3).mono e5).app (.cons d5 .nil)
  · have ek : k = its'.length := by omega
    subst ek
    have hk1 := hmul its'.length (Nat.le_refl _)
    refine .inl ⟨it.stop _ G2 R2 _ H2 e2 s3 rfl, ?_⟩
    rw [List.take_length] at ao
    obtain ⟨v, hv, dv⟩ := en2.at' _ _ (hJ L _ Δ2 j2)
    cases dv
    have dl : Den K (upd G2 L (.lst acc)) (.ref L) (.lst xs) := .lst upd_same (da.mono s3.giveEx)
    exact hN L Δ2 xs j2 ao _ σ2 _ F R2 H2 (by omega) ((en2.mono s3.giveEx).re hv dl) i2 (s3.give hFL) D (fun Δ'' σ'' G'' R'' H'' n' e'' en' ii' ss' => q Δ'' σ'' G'' R'' H'' n' ((((e1.trans e2).trans s3.giveEx)).trans e'') en' (I.mono (by omega) ii') ss')
      (fun v d G'' R'' H'' e'' ii' ss' dd p => r v d G'' R'' H'' (((e1.trans e2).trans s3.giveEx).trans e'') (I.mono (by omega) ii') ss' dd p)
end
end Fw
set_option Elab.async false
set_option linter.all false
set_option maxRecDepth 100000
set_option maxHeartbeats 4000000
namespace Fw
open PySem PySem.Spec PyProof.Rows L2
open Evl (Ex)
/-! ### defs that are run where no repr is under way -/
structure FnG (P : Program) (w : World) (K : PySem.W.Frag) (mg : Str → Option Value) (base : Heap) (k : Nat) (f : Addr) (fd : FuncData) (ps : List Str) (sp : Sp) : Prop where
  len : ∀ vs H Q E, sp vs H Q E → vs.length = ps.length
  go : ∀ (A : Around) (out : List Env) (s : Shared) (H : Hp) (args : Args) (us : List Value) (vs : List V) (Q : VK) (E : XK), A.guards = some [] → Room k A → Env0 P w K mg base A out s H → BindsTo s fd args (ps.zip us) → Vals vs us → sp vs H Q E →
    codeAny (model P w) A (.call (.ref f) args) (CR CX0 out P w H s Q E) s
section
variable {P : Program} {w : World} {K : PySem.W.Frag} {mg : Str → Option Value} {base : Heap}
/-- the end of a body -/
theorem ends_of {X : Cx} {out : List Env} {H : Hp} {s s2 : Shared} {Q : VK} (hX : X.prog = P) (hw : X.w = w) (hu : ∀ {σ : L2.St} {H2 : Hp}, Inv X [] σ H2 s2 → s2.os = s.os ∧ Un (frs out) [] H H2 s.heap s2.heap) {σ : L2.St} {H2 : Hp} {v : V} {u : Value} (J : Inv X [] σ H2 s2) (r : RelV v u) (q : Q v H2) : CE out P w H s Q u s2 := by
  obtain ⟨a, b⟩ := hu J
  refine ⟨v, H2, a, J.bare, b, ?_, r, q⟩
  have := J.hok
  rw [hX, hw] at this
  exact this
theorem funG {x qual : Str} {st : Stmt} {f : Addr} {fd : FuncData} {N ps : List Str} {k : Nat} {sp : Sp} (F : Fun K x qual st f fd) (S : FnScope N ps (defScope st)) (len : ∀ vs H Q E, sp vs H Q E → vs.length = ps.length)
    (body : ∀ (cdv : Value) (A : Around) (out : List Env) (s : Shared) (H : Hp) (vs : List V) (Q : VK) (E : XK), A.guards = some [] → Room k (A.deeper (envOfC qual (defScope st) s.heap.objs.size f cdv)) → sp vs H Q E →
      ∃ t, PSs (cxOf CX0 P w K mg base N qual (defScope st) f cdv A out s H E).nox (defBody st) t ∧ t { nx := fun _ H' => Q .non H', rt := Q } (start N vs) H) : FnG P w K mg base (k + 1) f fd ps sp := by
  obtain ⟨oc, od, kV, doc, pm, an, cdv, ct, osl, rfl, lk, hcd⟩ := F.ex
  refine ⟨len, fun A out s H args us vs Q E hgd room env0 bnd rel want => ?_⟩
  have back := fun b o e => (env0.bs b o e).1
  have KX := env0.mod.kin.keeps back
  have kinds : ∀ y ∈ ps.zip us, (defScope st).names.lookup y.1 = some .local ∨ ((defScope st).names.lookup y.1 = some .cell ∧ ((cellsFrom (s.heap.objs.size + 1) (defScope st).names []).lookup y.1).isSome = true) := fun y hy => (S.par y.1 (List.of_mem_zip (show (y.1, y.2) ∈ ps.zip us from hy)).1).imp id fun q => ⟨q, PySem.W.cellsFrom_some _ _ _ (.inl q)⟩
  refine codeAny_call_function room.depth (KX _ _ lk) rfl S.co S.gen rfl (PySem.W.codeRec_of KX hcd) (bnd _ _ _ _ (wpAny_newFunctionEnv_cells S.kind kinds fun env he s1 x => ?_))
  subst he
  refine ⟨(env0.mod.nolimit.keeps back).keeps x.toInCall.keep, codeAny_func ?_⟩
  obtain ⟨t, ht, hq⟩ := body cdv A out s H vs Q E hgd (room.deeper _) want
  refine wpAny_mono (ht.nox.run [] s1 (start N vs) H _ (inv_start S room.hd env0 (len _ _ _ _ want) rel x) hq) (fun fl s2 hs => ?_) fun e s2 hs => hs
  have fin := fun {v : V} {u : Value} {σ : L2.St} {H2 : Hp} (J : Inv (cxOf CX0 P w K mg base N qual (defScope st) f cdv A out s H E) [] σ H2 s2) (r : RelV v u) (q : Q v H2) => ends_of (s := s) (out := out) (H := H) (Q := Q) rfl rfl (fun J2 => ⟨J2.os, J2.base⟩) J r q
  match fl, hs with
  | .ret u, ⟨v, σ2, H2, J, r, q⟩ => exact fin J r q
  | .next, ⟨σ2, H2, J, q⟩ => exact fin (v := V.non) (u := Value.none) J rfl q
  | .brk, ⟨_, _, _, q⟩ => exact q.elim
  | .cont, ⟨_, _, _, q⟩ => exact q.elim
end
/-! ### the law's end -/
theorem scriptG {P : Program} {w : World} {K : PySem.W.Frag} {mg mb : Str → Option Value} {k : Nat} {fa a : Addr} {fd : FuncData} {x : Str} {s₁ : Shared} {vs : List Value} {ns : List Int}
    (KX : K.In s₁.heap) (gl : s₁.heap.Ns mainGlobals mg) (bl : s₁.heap.Ns builtinsNs mb) (bb : ∀ x : Str, x ≠ "__name__" → mb x = bootBuiltins x) (lim : s₁.heap.NoLimit) (sm : ∃ m, s₁.heap.Ns sysModules m) (g0 : s₁.gens = #[])
    (ha : s₁.heap.get? a = some { cls := .type "list", data := .seq vs.toArray }) (hi : IntsAre vs ns) (hl : ns.length ≤ 63) (room : Room k callerA)
    (F : ∀ base : Heap, K.In base → base.Ns mainGlobals mg → (∃ o, base.get? sysModules = some o) → FnG P w K mg base k fa fd [x] (lawSp K)) (hbind : ∀ (s : Shared) (u : Value), BindsTo s fd ⟨[u], []⟩ [(x, u)]) :
    codeAny (model P w) callerA (.call (.ref fa) ⟨[.ref a], []⟩) (fun r s2 => r = .ok (.ret (.bool true)) ∧ OldK s₁.heap s2.heap ∧ s2.os = s₁.os ∧ AllBare s2.gens) s₁ := by
  have hl2 : ns.length ≤ sizeLine := Nat.le_trans hl (by decide)
  let H : Hp := fun b => if b = a ∧ K.lookup a = none then some (.frz { cls := .type "list", data := .seq vs.toArray } (.lst (ns.map V.int))) else none
  have HH : ∀ b u, H b = some u → b = a ∧ K.lookup a = none ∧ u = .frz { cls := .type "list", data := .seq vs.toArray } (.lst (ns.map V.int)) := fun b u e => by
    by_cases hb : b = a ∧ K.lookup a = none
    · have e2 := (if_pos hb).symm.trans e
      exact ⟨hb.1, hb.2, (Option.some.inj e2).symm⟩
    · have e2 := (if_neg hb).symm.trans e
      cases e2
  have only : Only H := fun b => by
    cases q : H b with
    | none => exact .inl rfl
    | some u =>
      obtain ⟨_, _, rfl⟩ := HH b u q
      exact .inr ⟨_, _, rfl⟩
  have hS : SqL K H a (ns.map V.int) := by
    cases q : K.lookup a with
    | none => exact .inl (.inr ⟨_, if_pos ⟨rfl, q⟩⟩)
    | some o =>
      have e := KX a o q
      rw [ha] at e
      cases e
      exact .inr ⟨_, vs.toArray, _, q, rfl, rfl, rfl, by rw [List.size_toArray, hi.length]; exact hl2, by simpa using vals_ints hi⟩
  have hok : HOk P w H s₁.heap := fun b u q => by
    obtain ⟨rfl, _, rfl⟩ := HH b u q
    exact ⟨ha, by rw [List.length_map]; exact hl2, vs, _, vals_ints hi, ha⟩
  have seqNo : ∀ {b : Addr} {o : Obj} {es : Array DictEntry} {ep : Nat}, s₁.heap.get? b = some o → o.data = .dict es ep → H b = none := fun {b o es ep} e d => by
    cases q : H b with
    | none => rfl
    | some u =>
      obtain ⟨rfl, _⟩ := HH b u q
      rw [ha] at e
      cases e
      cases d
  have nsk : ∀ {b : Addr} {m : Str → Option Value}, s₁.heap.Ns b m → (hidT s₁.heap H).Ns b m := fun ⟨o, es, ep, e, d, r⟩ => ⟨o, es, ep, hidT_get e (seqNo e d), d, r⟩
  have kb : K.In (hidT s₁.heap H) := fun b o e => hidT_get (KX b o e) (by
    cases q : H b with
    | none => rfl
    | some u =>
      obtain ⟨rfl, h2, _⟩ := HH b u q
      rw [h2] at e
      cases e)
  have smb : ∃ o, (hidT s₁.heap H).get? sysModules = some o := by
    obtain ⟨m, hm⟩ := sm
    obtain ⟨o, _, _, e, _⟩ := nsk hm
    exact ⟨o, e⟩
  obtain ⟨mc, l1, l2⟩ := lim
  have env0 : Env0 P w K mg (hidT s₁.heap H) callerA [] s₁ H := ⟨rfl, ⟨kb, nsk gl, ⟨mb, nsk bl, bb⟩, ⟨mc, nsk l1, l2⟩⟩, fun b o e => of_hidT e, by rw [hidT_size]; exact Nat.le_refl _, trivial, fun b hb => (by cases hb), hok, .of_eq g0⟩
  have want : lawSp K [.ref a] H (fun v _ => v = .bl true) fun _ _ _ => False := ⟨a, ns, rfl, hS, hl, only, fun _ => rfl⟩
  refine codeAny_mono ((F _ kb (nsk gl) smb).go callerA [] s₁ H ⟨[.ref a], []⟩ [.ref a] [.ref a] _ _ rfl room env0 (hbind s₁ (.ref a)) (.cons rfl .nil) want) fun r s2 hr => ?_
  match r, hr with
  | .ok (.ret u), ⟨v, H2, os, bare, un, hok2, rv, q⟩ =>
    cases (show v = .bl true from q)
    cases (show u = Value.bool true from rv)
    refine ⟨rfl, OldK.of_keep fun b o e => ?_, os, bare⟩
    cases z : H b with
    | none => exact un.keep b o e z (fun m => by cases m) (fun m => by cases m)
    | some u =>
      obtain ⟨rfl, _, rfl⟩ := HH b u z
      have e2 := (hok2 _ _ (un.frzs _ _ _ z)).1
      rw [ha] at e
      cases e
      exact e2
theorem walkG {l : PySem.W.OpenLaw} {k : Nat} {q : Program} {loose : List Str} {XP : (Str → Option Value) → Heap → Prop} {YP : World → Heap → Prop} {d : DefRec} {K : Params → PySem.W.Frag} {x : Str}
    (hn : l.most = some 63) (hdf : d.params.defaults = []) (room : Room k callerA) (hi : importsNone q = true) (hY : ∀ (w : World) (h : Heap), YP w h → (K w.params).In h)
    (F : ∀ (w : World) (mg : Str → Option Value) (fa : Addr) (h : Heap), (K w.params).In h → h.Ns mainGlobals mg → mg d.name = some (.ref fa) → ∃ fd : FuncData, (∀ (s : Shared) (u : Value), BindsTo s fd ⟨[u], []⟩ [(x, u)]) ∧
        ∀ base : Heap, (K w.params).In base → base.Ns mainGlobals mg → (∃ o, base.get? sysModules = some o) → FnG l.prog w (K w.params) mg base k fa fd [x] (lawSp (K w.params))) :
    PySem.W.WalkO q loose XP YP l.row.toRowW d [] (fun f vs => PySem.call f vs) :=
  Att.attach_call hn hdf fun w s₀ s₁ mg mb fa o pm cd doc a vs ns G Y ho hd hcd hmg hobj hints hlen hg => by
    obtain ⟨fd, hb, hF⟩ := F w mg fa _ (hY w _ Y) G.T.g hmg
    obtain ⟨mm, hm, _⟩ := (G.T.seer hi).mods
    exact scriptG (hY w _ Y) G.T.g G.T.b G.T.builtins G.T.nolimit ⟨mm, hm⟩ hg hobj hints hlen room hF hb
end Fw
set_option Elab.async false
set_option linter.all false
set_option maxRecDepth 100000
set_option maxHeartbeats 4000000
/-! a tuple backwards -/
namespace RvT
open PySem PySem.Spec PyProof.Rows L2
open HT
section
variable {prog : Program} {w : World} {A : Around} {E : Value → Shared → Prop} {s : Shared}
theorem applied {sl : Addr} {t : Tok} {n : Nat} {Q : Int × Int × Nat → Shared → Prop} (hs : s.heap.IsSliceOf sl .none .none (.int (-1) t)) (h : Q ((n : Int) - 1, -1, n) s) : wpAny (model prog w) A (Builtin.Slice.sliceApplied (.ref sl) (pure (n : Int))) Q E s := by
  obtain ⟨os, g1, g2, g3⟩ := id hs
  unfold Builtin.Slice.sliceApplied Builtin.Slice.sliceFields
  refine wpAny_bind (wpAny_bind (wpAny_field g1 g3 (x := .none) rfl (wpAny_bind (wpAny_field g1 g3 (x := .none) rfl (wpAny_bind (wpAny_field g1 g3 (x := .int (-1) t) rfl (wpAny_pure ?_)))))))
  refine wpAny_bind (slicePart_int ?_)
  show wpAny _ _ (if ((-1 : Int) == 0) = true then _ else _) _ _ s
  rw [if_neg (by decide)]
  refine wpAny_bind (slicePart_none (wpAny_bind (slicePart_none (wpAny_bind (wpAny_pure ?_)))))
  show wpAny _ _ (pure ((n : Int) - 1, (-1 : Int), Builtin.Slice.slicePlaces ((n : Int) - 1) (-1) (-1))) _ _ s
  have e : Builtin.Slice.slicePlaces ((n : Int) - 1) (-1) (-1) = n := by
    unfold Builtin.Slice.slicePlaces
    rw [if_neg (by decide)]
    by_cases h0 : n = 0
    · subst h0
      decide
    · rw [if_pos (by omega)]
      have : ((n : Int) - 1 - -1 - 1) / - -1 = (n : Int) - 1 := by
        rw [show (- -1 : Int) = 1 from rfl, Int.ediv_one]
        omega
      rw [this]
      omega
  rw [e]
  exact wpAny_pure h
theorem fm_opt (l : List Value) : ∀ n, n ≤ l.length → ((List.range n).filterMap fun k => l[k]?) = l.take n
  | 0, _ => rfl
  | n + 1, h => by
    rw [List.range_succ, List.filterMap_append, fm_opt l n (by omega), List.take_succ]
    have : l[n]? = some l[n] := List.getElem?_eq_getElem (by omega)
    rw [this]
    simp [this]
theorem fmc {α β : Type} {f g : α → Option β} : ∀ (l : List α), (∀ x ∈ l, f x = g x) → l.filterMap f = l.filterMap g
  | [], _ => rfl
  | x :: l, h => by
    rw [List.filterMap_cons, List.filterMap_cons, h x List.mem_cons_self, fmc l fun y hy => h y (List.mem_cons_of_mem _ hy)]
theorem picked (xs : Array Value) : ((List.range xs.size).filterMap fun (k : Nat) => xs[((xs.size : Int) - 1 + (k : Int) * (-1)).toNat]?).toArray = xs.toList.reverse.toArray := by
  have e : ((List.range xs.size).filterMap fun (k : Nat) => xs[((xs.size : Int) - 1 + (k : Int) * (-1)).toNat]?) = (List.range xs.size).filterMap fun k => xs.toList.reverse[k]? := by
    refine fmc _ fun k hk => ?_
    have hk := List.mem_range.mp hk
    rw [List.getElem?_reverse (by simpa using hk)]
    have e2 : ((xs.size : Int) - 1 + (k : Int) * (-1)).toNat = xs.size - 1 - k := by omega
    rw [e2]
    simp
  rw [e, fm_opt _ _ (by simp), List.take_of_length_le (by simp)]
theorem getRev {t sl : Addr} {items : Array Value} {tk : Tok} {Q : Value → Shared → Prop} (ht : IsTup s.heap t items) (hs : s.heap.IsSliceOf sl .none .none (.int (-1) tk))
    (h : Q (.ref s.heap.objs.size) { s with heap := s.heap.push { cls := .type "tuple", data := .seq items.toList.reverse.toArray } }) (hz : items.size ≤ sizeLine) : wpAny (model prog w) A (getItem (.ref t) (.ref sl)) Q E s := by
  have ok : sizeOk (.seq items.toList.reverse.toArray) := by
    show items.toList.reverse.toArray.size ≤ sizeLine
    simpa using hz
  obtain ⟨os, g1, g2, g3⟩ := id hs
  have ty : s.TypeIs (.ref sl) "slice" := ⟨os, g1, g2⟩
  unfold getItem
  try with_reducible refine wpAny_holding ?_
  first | refine wpAny_bind (wpAny_pure ?_) | skip
  refine wpAny_bind (wpAny_sequenceKey ht.typeIs (by decide) (wpAny_bind (wpAny_callSpecial?_slot (name := Str.ofString "__getitem__") ht.typeIs PyProof.Rows.slot_tuple_getitem (wpAny_call_entry PyProof.Rows.slot_tuple_getitem ht.typeIs entry_tuple_getitem ?_ (args_tuple_getitem _ _)))))
  show wpAny _ _ (Builtin.Tuple.tupleItemsOf (.ref t) >>= _) _ _ s
  refine wpAny_bind (tupleItemsOf_ ht (wpAny_bind (wpAny_typeOf ty ?_)))
  rw [if_pos (by decide)]
  refine wpAny_bind (applied hs ?_)
  show wpAny _ _ (if ((((items.size : Nat) : Int) - 1 == 0) && ((-1 : Int) == 1) && (items.size == items.size)) = true then _ else _) _ _ s
  rw [if_neg (by rw [show ((-1 : Int) == 1) = false from rfl, Bool.and_false, Bool.false_and]; exact Bool.false_ne_true), picked]
  first
    | exact wpAny_bind (m := Builtin.Tuple.tupleExact _) (wpAny_newObj_type (wpAny_pure ⟨_, rfl, wpAny_pure h⟩) ok)
    | exact wpAny_bind (m := Builtin.Tuple.tupleExact _) (wpAny_newObj_type (wpAny_bind (wpAny_pure (wpAny_pure ⟨_, rfl, wpAny_pure h⟩))) ok)
    | exact wpAny_bind (wpAny_bind (m := Builtin.Tuple.tupleExact _) (wpAny_newObj_type (wpAny_pure (wpAny_pure ⟨_, rfl, wpAny_pure h⟩)) ok))
    | exact wpAny_bind (wpAny_bind (m := Builtin.Tuple.tupleExact _) (wpAny_newObj_type (wpAny_pure ⟨_, rfl, wpAny_pure h⟩) ok))
end
def tRevT (K : PySem.W.Frag) (te : TE) : TE := fun σ H Q => te σ H fun x H1 => ∃ a xs, x = .ref a ∧ SqT K H1 a xs ∧ ∀ p, H1 p = none → Q (.ref p) (upd H1 p (.tup xs.reverse))
theorem pe_revT {X : Cx} {e : Expr} {te : TE} {k : Nat} {p1 p2 p3 pos : Pos} (he : PE X e te) : PE X (.Subscript e (.Slice none none (some (.UnaryOp .USub (.Constant (.int 1) k p1) p2)) p3) pos) (tRevT X.K te) := by
  refine ⟨fun pins s σ H Q I h => ?_⟩
  refine Subscript_ (thn (he.run pins s σ H _ I h) fun v s1 ⟨x, H1, I1, r1, a, xs, ex, hx, q⟩ => ?_)
  subst ex
  cases r1
  have hst : PO X (some (.UnaryOp .USub (.Constant (.int 1) k p1) p2)) (tPart (tUn (rU fun i => .int (-i)) (tC (.int 1)))) := po_some (pe_un un_neg pe_int)
  refine wpAny_Slice (thn (po_none.run pins s1 σ H1 (fun o H2 => o = none ∧ H2 = H1) I1 ⟨rfl, rfl⟩) fun vl s2 ⟨l, H2, I2, pl, el, e2⟩ => thn (po_none.run pins s2 σ H2 (fun o H3 => o = none ∧ H3 = H2) I2 ⟨rfl, rfl⟩) fun vu s3 ⟨u, H3, I3, pu, eu, e3⟩ => thn (hst.run pins s3 σ H3 (fun o H4 => o = some (-1) ∧ H4 = H3) I3 ⟨1, rfl, -1, rfl, rfl, rfl⟩) fun vs s4 ⟨o, H4, I4, ps, eo, e4⟩ => ?_)
  subst el e2 eu e3 eo e4
  cases pl
  cases pu
  obtain ⟨tk, rfl⟩ : ∃ tk, vs = .int (-1) tk := by
    cases ps
    exact ⟨_, rfl⟩
  have I5 := I4.kept (t' := s4.toks) (h' := s4.heap.push { cls := .type "slice", data := .fields #[.none, .none, .int (-1) tk] }) fun b ob q => Heap.get?_push_of_some _ q
  obtain ⟨its, r, ht, hz⟩ := I5.tuple hx
  have hlen := r.length
  show wpAny (model X.prog X.w) X.A (subscriptTail e (.Slice none none (some (.UnaryOp .USub (.Constant (.int 1) k p1) p2)) p3) (.ref a) (.ref s4.heap.objs.size)) (EP X pins σ Q) X.xe { s4 with heap := s4.heap.push { cls := .type "slice", data := .fields #[.none, .none, .int (-1) tk] } }
  refine tail_any (ops := [.ref a, .ref s4.heap.objs.size]) ht.typeIs PyProof.Rows.slot_tuple_getitem.lookup (getRev ht (Heap.IsSliceOf.new _ _ _ _) ?_ (by rw [List.size_toArray]; omega)) (by with_unfolding_all rfl)
  refine ⟨.ref _, _, I5.laid (t' := s4.toks) (o := .tup xs.reverse) (fun b ob q => Heap.get?_push_of_some _ q) (Nat.le_refl _) ?_, rfl, q _ (I5.hok.fresh (Nat.le_refl _))⟩
  exact ⟨by rw [List.length_reverse]; exact hz, _, r.reverse, IsTup.new _ _⟩
end RvT
set_option Elab.async false
set_option linter.all false
set_option maxRecDepth 100000
set_option maxHeartbeats 4000000
namespace Fw
open PySem PySem.Spec PyProof.Rows L2
open Evl (Ex)
section
variable {K : PySem.W.Frag} {I : Res} {Δ : Sl} {te : TE} {c1 : Nat} {xs : List Dt}
theorem e_revT (h : Ev K I c1 te Δ (· = .tup xs)) : Ev K I c1 (RvT.tRevT K te) Δ (· = .tup xs.reverse) := fun m σ G F R H mb e i s Q q =>
  h m σ G F R H mb e i s _ fun v d G1 R1 H1 e1 i1 s1 d1 p1 => by
    subst p1
    cases d1 with
    | tup ha hs => exact ⟨_, _, rfl, s1.tupH ha, fun p hp => q _ _ _ _ _ (e1.trans (Ex.new1 s1 hp)) i1 (s1.new hp) (.tup upd_same (hs.rev.mono (Ex.new1 s1 hp))) rfl⟩
theorem e_dic : Ev K I 0 tDNewK Δ (· = .dic) := fun m σ G F R H mb e i s Q q => fun p hp => q _ _ _ _ _ (Ex.new1 s hp) i (s.new hp) (.dic upd_same) rfl
end
theorem revT (K : PySem.W.Frag) {X : Cx} {e : Expr} {te : TE} {k : Nat} {p1 p2 p3 pos : Pos} (he : PE X e te) (h : X.K = K := by rfl) : PE X (.Subscript e (.Slice none none (some (.UnaryOp .USub (.Constant (.int 1) k p1) p2)) p3) pos) (RvT.tRevT K te) := h ▸ RvT.pe_revT he
/-! ### sizes -/
mutual
def szD : Dt → Nat
  | .str s => s.cps.size
  | .lst xs => szDs xs
  | .tup xs => szDs xs
  | .non | .bl _ | .int _ | .dic | .ptr _ | .cls _ | .scr _ => 0
def szDs : List Dt → Nat
  | [] => 0
  | x :: xs => szD x + 1 + szDs xs
end
mutual
def dpD : Dt → Nat
  | .lst xs => dpDs xs + 1
  | .tup xs => dpDs xs + 1
  | .dic => 1
  | .non | .bl _ | .int _ | .str _ | .ptr _ | .cls _ | .scr _ => 0
def dpDs : List Dt → Nat
  | [] => 0
  | x :: xs => max (dpD x) (dpDs xs)
end
def intOk (i : Int) : Bool := decide (i.natAbs < 10 ^ 100)
mutual
def lvD : Dt → Bool
  | .str s => PyData.strOk s
  | .int i => intOk i
  | .lst xs => lvDs xs
  | .tup xs => lvDs xs
  | .non | .bl _ | .dic => true
  | .ptr _ | .cls _ | .scr _ => false
def lvDs : List Dt → Bool
  | [] => true
  | x :: xs => lvD x && lvDs xs
end
mutual
theorem bulkD : ∀ d : Dt, (toP d).bulk = szD d
  | .str s => rfl
  | .lst xs => bulkDs xs
  | .tup xs => bulkDs xs
  | .non => rfl
  | .bl _ => rfl
  | .int _ => rfl
  | .dic => rfl
  | .ptr _ => rfl
  | .cls _ => rfl
  | .scr _ => rfl
theorem bulkDs : ∀ xs : List Dt, PyData.bulkAll (toPs xs) = szDs xs
  | [] => rfl
  | x :: xs => by
    show (toP x).bulk + 1 + PyData.bulkAll (toPs xs) = szD x + 1 + szDs xs
    rw [bulkD x, bulkDs xs]
end
mutual
theorem depthD : ∀ d : Dt, (toP d).depth = dpD d
  | .str s => rfl
  | .lst xs => congrArg (· + 1) (depthDs xs)
  | .tup xs => congrArg (· + 1) (depthDs xs)
  | .non => rfl
  | .bl _ => rfl
  | .int _ => rfl
  | .dic => rfl
  | .ptr _ => rfl
  | .cls _ => rfl
  | .scr _ => rfl
theorem depthDs : ∀ xs : List Dt, PyData.depthAll (toPs xs) = dpDs xs
  | [] => rfl
  | x :: xs => by
    show max (toP x).depth (PyData.depthAll (toPs xs)) = max (dpD x) (dpDs xs)
    rw [depthD x, depthDs xs]
end
theorem int_short {i : Int} (h : intOk i = true) : (PyData.shown (.int i)).length ≤ 110 := by
  have h1 := int_text_length_le10 (k := 100) (by decide) (of_decide_eq_true h)
  show (Str.ofString (toString i)).length ≤ 110
  rw [PySem.ofString_length]
  omega
theorem int_log {i : Int} (h : intOk i = true) : i.natAbs.log2 < 1920 := by
  have h1 := of_decide_eq_true h
  by_cases h0 : i.natAbs = 0
  · rw [h0]
    decide
  · exact (Nat.log2_lt h0).mpr (Nat.lt_of_lt_of_le h1 (by decide +kernel))
theorem str_short {s : Str} (h : PyData.strOk s = true) : (s.cps.toList.all fun c => decide (c < 16 ^ 8)) = true := by
  unfold PyData.strOk at h
  rw [List.all_eq_true]
  intro c hc
  rw [Array.all_eq_true'] at h
  have h2 := of_decide_eq_true (h c (by simpa using hc))
  exact decide_eq_true (Nat.lt_trans h2 (by decide))
mutual
theorem shortD : ∀ d : Dt, lvD d = true → (toP d).leavesShort 110 = true ∧ (toP d).showable = true
  | .str s, h => ⟨str_short h, rfl⟩
  | .lst xs, h => shortDs xs h
  | .tup xs, h => shortDs xs h
  | .non, _ => ⟨rfl, rfl⟩
  | .bl _, _ => ⟨rfl, rfl⟩
  | .int i, h => ⟨decide_eq_true (int_short h), decide_eq_true (int_log h)⟩
  | .dic, _ => ⟨rfl, rfl⟩
  | .ptr _, h => ⟨rfl, rfl⟩
  | .cls _, h => ⟨rfl, rfl⟩
  | .scr _, h => ⟨rfl, rfl⟩
theorem shortDs : ∀ xs : List Dt, lvDs xs = true → PyData.leavesShortAll 110 (toPs xs) = true ∧ PyData.showableAll (toPs xs) = true
  | [], _ => ⟨rfl, rfl⟩
  | x :: xs, h => by
    have h2 := Bool.and_eq_true_iff.mp (show (lvD x && lvDs xs) = true from h)
    have a := shortD x h2.1
    have b := shortDs xs h2.2
    constructor
    · show ((toP x).leavesShort 110 && PyData.leavesShortAll 110 (toPs xs)) = true
      rw [a.1, b.1]
      rfl
    · show ((toP x).showable && PyData.showableAll (toPs xs)) = true
      rw [a.2, b.2]
      rfl
end
structure Sm (d : Dt) : Prop where
  lv : lvD d = true
  sz : szD d ≤ 100000
  dp : dpD d ≤ 50
theorem Sm.fits {d : Dt} (h : Sm d) : (toP d).shown.length ≤ sizeLine := by
  have h1 := PyData.shown_le_bulk 110 (by decide) (toP d) (shortD d h.lv).1
  rw [bulkD d] at h1
  have h2 := h.sz
  have h3 : sizeLine = 16777216 := by decide
  omega
mutual
theorem lv_val : ∀ d : Dt, lvD d = true → valD d = true
  | .str s, h => rfl
  | .lst xs, h => lv_vals xs h
  | .tup xs, h => lv_vals xs h
  | .non, _ => rfl
  | .bl _, _ => rfl
  | .int i, h => rfl
  | .dic, _ => rfl
  | .ptr _, h => h
  | .cls _, h => h
  | .scr _, h => h
theorem lv_vals : ∀ xs : List Dt, lvDs xs = true → valDs xs = true
  | [], _ => rfl
  | x :: xs, h => by
    have h2 := Bool.and_eq_true_iff.mp (show (lvD x && lvDs xs) = true from h)
    show (valD x && valDs xs) = true
    rw [lv_val x h2.1, lv_vals xs h2.2]
    rfl
end
/-! ### repr -/
section
variable {X : Cx} {pins : List (Addr × Obj)} {σ : L2.St} {H : Hp} {s : Shared}
mutual
theorem Den.reads (J : Inv X pins σ H s) : ∀ {v : V} {d : Dt}, Den X.K H v d → lvD d = true → ∀ {u : Value}, RelV v u → ∃ as, Reads s.heap u (toP d) as ∧ ∀ a ∈ as, H a ≠ none
  | _, _, .non, _, _, r => by
    cases r
    exact ⟨[], .none, fun a h => by cases h⟩
  | _, _, .bl b, _, _, r => by
    cases r
    exact ⟨[], .bool b, fun a h => by cases h⟩
  | _, _, .int i, _, _, r => by
    obtain ⟨t, rfl⟩ := r
    exact ⟨[], .int i t, fun a h => by cases h⟩
  | _, _, .str x, _, _, r => by
    obtain ⟨t, rfl⟩ := r
    exact ⟨[], .str x t, fun a h => by cases h⟩
  | _, _, .lst (a := a) h hs, l, _, r => by
    cases r
    obtain ⟨its, rv, ⟨o, n, g1, g2, _, g4⟩, _⟩ := J.list (.inl (.inl h))
    obtain ⟨as, q, z⟩ := Dens.reads J hs l rv
    refine ⟨_, .list g1 g2 g4 q, fun b hb => ?_⟩
    rcases List.mem_cons.mp hb with e | e
    · subst e
      rw [h]
      exact fun z => nomatch z
    · exact z b e
  | _, _, .tup h hs, l, _, r => by
    cases r
    obtain ⟨its, rv, ⟨o, g1, g2, n, g4⟩, _⟩ := J.tuple (.inl (.inl h))
    obtain ⟨as, q, z⟩ := Dens.reads J hs l rv
    exact ⟨_, .tuple g1 g2 g4 q, z⟩
  | _, _, .dic (a := a) h, _, _, r => by
    cases r
    obtain ⟨_, _, vs, kv, o, es, ep, g1, g2, g3, _, g5, _⟩ := (show ObjOk X.prog X.w H s.heap a (.dK []) from J.hok a _ h)
    cases kv
    have e0 : es.toList = [] := by
      cases q : es.toList with
      | nil => rfl
      | cons y ys =>
        rw [q] at g5
        cases g5
    refine ⟨_, Reads.dict (kvs := []) (as := []) (bs := []) g1 g2.1 g3 (by rw [e0]; exact .nil) (by rw [e0]; exact .nil), fun b hb => ?_⟩
    have e : b = a := by simpa using hb
    subst e
    rw [h]
    exact fun z => nomatch z
  | _, _, .ptr a, l, _, _ => by cases l
  | _, _, .cls v, l, _, _ => by cases l
  | _, _, .scr h, l, _, _ => by cases l
theorem Dens.reads (J : Inv X pins σ H s) : ∀ {vs : List V} {ds : List Dt}, Dens X.K H vs ds → lvDs ds = true → ∀ {us : List Value}, Vals vs us → ∃ as, ReadsAll s.heap us (toPs ds) as ∧ ∀ a ∈ as, H a ≠ none
  | _, _, .nil, _, _, r => by
    cases r
    exact ⟨[], .nil, fun a h => by cases h⟩
  | _, _, .cons h hs, l, _, r => by
    cases r with
    | cons r1 r2 =>
      have l2 := Bool.and_eq_true_iff.mp l
      obtain ⟨as, q1, z1⟩ := Den.reads J h l2.1 r1
      obtain ⟨bs, q2, z2⟩ := Dens.reads J hs l2.2 r2
      exact ⟨_, .cons q1 q2, fun b hb => (List.mem_append.mp hb).elim (z1 b) (z2 b)⟩
end
end
def rRepr (K : PySem.W.Frag) : List V → Hp → VK → Prop := fun xs H Q => ∃ v d, xs = [v] ∧ Den K H v d ∧ Sm d ∧ Q (.str (toP d).shown) H
theorem reprK (K : PySem.W.Frag) {X : Cx} (hg : X.A.guards = some []) (hu : X.A.units + 64 < cLine) (hb : ∃ o, X.base.get? sysModules = some o) (h : X.K = K := by rfl) : CallR X (.builtin "repr") (rRepr K) := by
  subst h
  intro pins s σ H xs us Q J r hh
  obtain ⟨v, d, rfl, hd, sm, q⟩ := hh
  obtain ⟨u, rfl, ru⟩ := vals1 r
  obtain ⟨as, rd, z⟩ := hd.reads J sm.lv ru
  have nsys : sysModules ∉ as := fun hm => by
    obtain ⟨o, e⟩ := hb
    exact z _ hm (J.bs _ _ e).2
  have road : ∀ a, u = .ref a → wpAny (model X.prog X.w) X.A (call (.builtin "repr") [u]) (EP X pins σ Q) X.xe s := fun a e => by
    subst e
    refine repr_of_reads' (h₀ := s.heap) rd (shortD d sm.lv).2 (fun _ => nsys) hg ?_ (fun _ _ e => e) (fun h' u tk hk => ⟨.str _, H, J.kept hk, ⟨u, rfl⟩, q⟩) sm.fits
    have h1 := sm.dp
    rw [depthD]
    omega
  cases hd with
  | non =>
    cases ru
    exact PySem.P.repr_of_none ⟨.str _, H, J.tok _, ⟨_, rfl⟩, q⟩
  | bl b =>
    cases ru
    exact PySem.P.repr_of_bool ⟨.str _, H, J.tok _, ⟨_, rfl⟩, q⟩
  | int i =>
    obtain ⟨t, rfl⟩ := ru
    exact PySem.P.repr_of_int (int_log sm.lv) ⟨.str _, H, J.tok _, ⟨_, rfl⟩, q⟩
  | str x =>
    obtain ⟨t, rfl⟩ := ru
    exact PySem.P.repr_of_str ⟨.str _, H, J.tok _, ⟨_, rfl⟩, q⟩ sm.fits
  | lst h1 h2 => exact road _ ru
  | tup h1 h2 => exact road _ ru
  | dic h1 => exact road _ ru
  | ptr a => cases sm.lv
  | cls v => cases sm.lv
  | scr h1 => cases sm.lv
section
variable {K : PySem.W.Frag} {x : Dt} {xs : List Dt}
theorem cd_repr (h : Sm x) : CallD K (rRepr K) [x] (· = .str (toP x).shown) := fun vs G F R H s hv Q q => by
  cases hv with
  | cons h1 h2 =>
    cases h2
    exact ⟨_, x, rfl, h1.mono s.g, h, q _ _ G H (Evl.Ex.refl _) s (.str _) rfl⟩
/-! == [] -/
def rEqE (K : PySem.W.Frag) : R2 := fun x y H Q => ∃ a b xs, x = .ref a ∧ y = .ref b ∧ SqL K H a xs ∧ SqL K H b [] ∧ Q (.bl xs.isEmpty) H
theorem eqE (K : PySem.W.Frag) {X : Cx} (hu : X.A.units + 64 < cLine) (h : X.K = K := by rfl) : OpR X (compareOp .Eq) (rEqE K) := by
  subst h
  intro pins s σ H x y v u Q J rx ry hh
  obtain ⟨a, b, xs, rfl, rfl, ha, hb, q⟩ := hh
  cases rx
  cases ry
  obtain ⟨i1, r1, p1, _⟩ := J.list ha
  obtain ⟨i2, r2, p2, _⟩ := J.list hb
  cases r2
  cases xs with
  | nil =>
    cases r1
    refine SeqAt.eq_listAt p1.isList p2.isList rfl (by omega) (e := fun _ => true) (fun j h1 _ => absurd h1 (by simp)) ⟨.bl true, H, J, rfl, q⟩
  | cons z zs =>
    cases r1
    exact SeqAt.eq_list_lengthsAt p1.isList p2.isList (by simp) (by omega) ⟨.bl false, H, J, rfl, q⟩
theorem opd_eqE : OpD K (rEqE K) (.lst xs) (.lst []) (· = .bl xs.isEmpty) := fun v w G F R H s hv hw Q q => by
  cases hv with
  | lst ha hs =>
    cases hw with
    | lst hb ht =>
      cases ht
      refine ⟨_, _, _, rfl, rfl, s.lstH ha, s.lstH hb, ?_⟩
      have e : ∀ {vs : List V}, Dens K G vs xs → vs.isEmpty = xs.isEmpty := fun hd => by cases hd <;> rfl
      rw [e hs]
      exact q _ _ G H (Evl.Ex.refl _) s (.bl _) rfl
end
/-! ### flat data -/
mutual
theorem layD : ∀ d : Dt, lvD d = true → flatD d = true → (toP d).canLay0 = true
  | .str s, h, _ => h
  | .lst xs, h, f => layDs xs h f
  | .tup xs, h, f => layDs xs h f
  | .non, _, _ => rfl
  | .bl _, _, _ => rfl
  | .int i, h, _ => rfl
  | .dic, _, f => by cases f
  | .ptr _, h, _ => by cases h
  | .cls _, h, _ => by cases h
  | .scr _, h, _ => by cases h
theorem layDs : ∀ xs : List Dt, lvDs xs = true → flatDs xs = true → PyData.canLayAll0 (toPs xs) = true
  | [], _, _ => rfl
  | x :: xs, h, f => by
    have h2 := Bool.and_eq_true_iff.mp (show (lvD x && lvDs xs) = true from h)
    have f2 := Bool.and_eq_true_iff.mp (show (flatD x && flatDs xs) = true from f)
    show ((toP x).canLay0 && PyData.canLayAll0 (toPs xs)) = true
    rw [layD x h2.1 f2.1, layDs xs h2.2 f2.2]
    rfl
end
theorem Sm.shaped {d : Dt} (h : Sm d) (f : flatD d = true) : SeqAt.shaped (toP d) = true := by
  unfold SeqAt.shaped
  rw [layD d h.lv f, depthD, decide_eq_true (Nat.le_trans h.dp (by decide))]
  rfl
/-- t != () -/
theorem opd_ne0 {K : PySem.W.Frag} {xs : List Dt} (h : Sm (.tup xs)) (f : flatDs xs = true) : OpD K (rNeD K) (.tup xs) (.tup []) (· = .bl (!xs.isEmpty)) := by
  refine (opd_neD (x := .tup xs) (y := .tup []) f rfl (h.shaped f) (by decide)).imp fun d e => ?_
  rw [e]
  cases xs <;> rfl
end Fw
set_option Elab.async false
set_option linter.all false
set_option maxRecDepth 100000
set_option maxHeartbeats 4000000
namespace Fw
open PySem PySem.Spec PyProof.Rows L2
open Evl (Ex)
/-! ### sizes of lists of data -/
theorem lvDs_iff : ∀ {xs : List Dt}, lvDs xs = true ↔ ∀ x ∈ xs, lvD x = true
  | [] => ⟨fun _ x h => (by cases h), fun _ => rfl⟩
  | y :: ys => by
    rw [show lvDs (y :: ys) = (lvD y && lvDs ys) from rfl, Bool.and_eq_true, lvDs_iff (xs := ys)]
    simp
theorem szDs_app : ∀ xs ys : List Dt, szDs (xs ++ ys) = szDs xs + szDs ys
  | [], ys => by rw [List.nil_append, show szDs [] = 0 from rfl, Nat.zero_add]
  | x :: xs, ys => by
    show szD x + 1 + szDs (xs ++ ys) = szD x + 1 + szDs xs + szDs ys
    rw [szDs_app xs ys]
    omega
theorem szDs_mem : ∀ {xs : List Dt} {x : Dt}, x ∈ xs → szD x + 1 ≤ szDs xs
  | y :: ys, x, h => by
    show szD x + 1 ≤ szD y + 1 + szDs ys
    rcases List.mem_cons.mp h with e | e
    · subst e
      omega
    · have := szDs_mem e
      omega
theorem szDs_len : ∀ xs : List Dt, xs.length ≤ szDs xs
  | [] => Nat.le_refl _
  | x :: xs => by
    show xs.length + 1 ≤ szD x + 1 + szDs xs
    have := szDs_len xs
    omega
theorem szDs_rev : ∀ xs : List Dt, szDs xs.reverse = szDs xs
  | [] => rfl
  | x :: xs => by
    rw [List.reverse_cons, szDs_app, szDs_rev xs]
    show szDs xs + (szD x + 1 + 0) = szD x + 1 + szDs xs
    omega
theorem szDs_drop : ∀ (n : Nat) (xs : List Dt), szDs (xs.drop n) ≤ szDs xs
  | 0, xs => Nat.le_refl _
  | n + 1, [] => Nat.le_refl _
  | n + 1, x :: xs => by
    have := szDs_drop n xs
    show szDs (xs.drop n) ≤ szD x + 1 + szDs xs
    omega
theorem szDs_take : ∀ (n : Nat) (xs : List Dt), szDs (xs.take n) ≤ szDs xs
  | 0, xs => Nat.zero_le _
  | n + 1, [] => Nat.le_refl _
  | n + 1, x :: xs => by
    have := szDs_take n xs
    show szD x + 1 + szDs (xs.take n) ≤ szD x + 1 + szDs xs
    omega
theorem dpDs_le : ∀ {xs : List Dt} {k : Nat}, (∀ x ∈ xs, dpD x ≤ k) → dpDs xs ≤ k
  | [], k, _ => Nat.zero_le _
  | x :: xs, k, h => by
    show max (dpD x) (dpDs xs) ≤ k
    have h1 := h x List.mem_cons_self
    have h2 := dpDs_le fun y hy => h y (List.mem_cons_of_mem _ hy)
    omega
theorem dpDs_mem : ∀ {xs : List Dt} {x : Dt}, x ∈ xs → dpD x ≤ dpDs xs
  | y :: ys, x, h => by
    show dpD x ≤ max (dpD y) (dpDs ys)
    rcases List.mem_cons.mp h with e | e
    · subst e
      omega
    · have := dpDs_mem e
      omega
theorem cut_mem {xs : List Dt} {lo hi : Option Int} {x : Dt} (h : x ∈ cutD xs lo hi) : x ∈ xs := List.mem_of_mem_drop (List.mem_of_mem_take h)
theorem cut_sz (xs : List Dt) (lo hi : Option Int) : szDs (cutD xs lo hi) ≤ szDs xs := Nat.le_trans (szDs_take _ _) (szDs_drop _ _)
theorem cut_len (xs : List Dt) (lo hi : Option Int) : (cutD xs lo hi).length ≤ xs.length := by
  unfold cutD
  rw [List.length_take, List.length_drop]
  omega
/-- small, by numbers -/
structure Sz (n k : Nat) (d : Dt) : Prop where
  lv : lvD d = true
  sz : szD d ≤ n
  dp : dpD d ≤ k
theorem Sz.mono {n k n' k' : Nat} {d : Dt} (h : Sz n k d) (h1 : n ≤ n') (h2 : k ≤ k') : Sz n' k' d := ⟨h.lv, Nat.le_trans h.sz h1, Nat.le_trans h.dp h2⟩
theorem Sz.sm {n k : Nat} {d : Dt} (h : Sz n k d) (h1 : n ≤ 100000) (h2 : k ≤ 50) : Sm d := ⟨h.lv, Nat.le_trans h.sz h1, Nat.le_trans h.dp h2⟩
theorem Sz.lst {n k : Nat} {xs : List Dt} (h1 : ∀ x ∈ xs, lvD x = true) (h2 : szDs xs ≤ n) (h3 : ∀ x ∈ xs, dpD x ≤ k) : Sz n (k + 1) (.lst xs) := ⟨lvDs_iff.mpr h1, h2, Nat.succ_le_succ (dpDs_le h3)⟩
theorem Sz.tup {n k : Nat} {xs : List Dt} (h1 : ∀ x ∈ xs, lvD x = true) (h2 : szDs xs ≤ n) (h3 : ∀ x ∈ xs, dpD x ≤ k) : Sz n (k + 1) (.tup xs) := ⟨lvDs_iff.mpr h1, h2, Nat.succ_le_succ (dpDs_le h3)⟩
theorem szDs_all {m : Nat} : ∀ {xs : List Dt}, (∀ x ∈ xs, szD x ≤ m) → szDs xs ≤ xs.length * (m + 1)
  | [], _ => Nat.zero_le _
  | x :: xs, h => by
    have h1 := h x List.mem_cons_self
    have h2 := szDs_all fun y hy => h y (List.mem_cons_of_mem _ hy)
    show szD x + 1 + szDs xs ≤ (xs.length + 1) * (m + 1)
    rw [Nat.add_mul]
    omega
theorem Sz.all {n k l : Nat} {xs : List Dt} (h : ∀ x ∈ xs, Sz n k x) (hl : xs.length ≤ l) : Sz (l * (n + 1)) (k + 1) (.lst xs) := .lst (fun x hx => (h x hx).lv) (Nat.le_trans (szDs_all fun x hx => (h x hx).sz) (Nat.mul_le_mul_right _ hl)) fun x hx => (h x hx).dp
theorem Sz.allT {n k l : Nat} {xs : List Dt} (h : ∀ x ∈ xs, Sz n k x) (hl : xs.length ≤ l) : Sz (l * (n + 1)) (k + 1) (.tup xs) := .tup (fun x hx => (h x hx).lv) (Nat.le_trans (szDs_all fun x hx => (h x hx).sz) (Nat.mul_le_mul_right _ hl)) fun x hx => (h x hx).dp
theorem Sz.int {n k : Nat} {i : Int} (h : i.natAbs < 10 ^ 100) : Sz n k (.int i) := ⟨decide_eq_true h, Nat.zero_le _, Nat.zero_le _⟩
theorem big13 {i : Int} (h0 : 0 ≤ i) (h1 : i ≤ 10 ^ 60) : i.natAbs < 10 ^ 100 := by
  have h2 : (i.natAbs : Int) ≤ 10 ^ 60 := by omega
  have h3 : i.natAbs ≤ 10 ^ 60 := by exact_mod_cast h2
  exact Nat.lt_of_le_of_lt h3 (by decide +kernel)
theorem sz_vec {n : Nat} {v : List Int} (h : isV n v) {l : Nat} (hl : n ≤ l) : Sz l 1 (vec v) :=
  (Sz.allT (n := 0) (k := 0) (l := l) (fun x hx => by
    obtain ⟨i, hi, rfl⟩ := List.mem_map.mp hx
    have := h.lev i hi
    exact .int (big13 this.1 (Int.le_trans this.2 (by decide)))) (by rw [List.length_map, h.len]; exact hl)).mono (by omega) (Nat.le_refl _)
theorem sz_tbl {n : Nat} {t : List (List Int)} (h : isT n t) : Sz 42 2 (tbl t) :=
  Sz.allT (n := 6) (k := 1) (l := 6) (fun x hx => by
    obtain ⟨r, hr, rfl⟩ := List.mem_map.mp hx
    exact sz_vec ⟨h.row r hr, h.lev r hr⟩ h.n6) (by rw [List.length_map]; exact h.le)
theorem ofString_ok (s : String) : PyData.strOk (Str.ofString s) = true := by
  unfold PyData.strOk
  rw [Str.ofString_eq_toList]
  rw [Array.all_eq_true']
  intro c hc
  have hc2 : c ∈ s.toList.map Char.toNat := by simpa using hc
  obtain ⟨x, _, rfl⟩ := List.mem_map.mp hc2
  refine decide_eq_true ?_
  have := x.valid
  rcases this with h | ⟨_, h⟩
  · have h2 : x.toNat < 0xd800 := h
    omega
  · exact h
section
variable {K : PySem.W.Frag} {I : Res} {Δ : Sl} {tb te : TE} {tr ts : TA} {P P1 : Dt → Prop} {c1 c2 c3 n m : Nat}
/-- one of several, by a draw -/
theorem e_pick (ha : EvA K I c1 tr Δ (fun ds => ds.length = n ∧ ∀ d ∈ ds, P d)) (hb : Ev K I c2 tb Δ (fun d => ∃ i : Int, d = .int i ∧ 0 ≤ i ∧ i < n)) (hn : n ≤ 1000) : Ev K I (c1 + c2) (tOp (rIx K) (tLst tr) tb) Δ P :=
  ev_op (P1 := fun d => ∃ xs, d = .lst xs ∧ xs.length = n ∧ ∀ d ∈ xs, P d) (ev_lst ha fun ds h => ⟨Nat.le_trans (by omega : ds.length ≤ 1000) (by decide), ds, rfl, h.1, h.2⟩) hb fun x y h1 h2 => by
    obtain ⟨xs, rfl, hl, hx⟩ := h1
    obtain ⟨i, rfl, i0, i1⟩ := h2
    exact opd_pick i0 (by omega) hx
theorem e_pickV {xs : List Dt} (ha : Ev K I c1 te Δ (fun d => ∃ xs : List Dt, d = .lst xs ∧ xs.length = n ∧ ∀ d ∈ xs, P d)) (hb : Ev K I c2 tb Δ (fun d => ∃ i : Int, d = .int i ∧ 0 ≤ i ∧ i < n)) : Ev K I (c1 + c2) (tOp (rIx K) te tb) Δ P :=
  ev_op ha hb fun x y h1 h2 => by
    obtain ⟨xs, rfl, hl, hx⟩ := h1
    obtain ⟨i, rfl, i0, i1⟩ := h2
    exact opd_pick i0 (by omega) hx
theorem e_catP (ha : Ev K I c1 te Δ (fun d => ∃ xs : List Dt, d = .lst xs ∧ xs.length = n ∧ ∀ d ∈ xs, P d)) (hb : Ev K I c2 tb Δ (fun d => ∃ xs : List Dt, d = .lst xs ∧ xs.length = m ∧ ∀ d ∈ xs, P d)) (h : n + m ≤ 1000) : Ev K I (c1 + c2) (tOp rCat te tb) Δ (fun d => ∃ xs : List Dt, d = .lst xs ∧ xs.length = n + m ∧ ∀ d ∈ xs, P d) :=
  ev_op ha hb fun x y h1 h2 => by
    obtain ⟨xs, rfl, l1, x1⟩ := h1
    obtain ⟨ys, rfl, l2, x2⟩ := h2
    refine (opd_cat (Nat.le_trans (by omega : xs.length + ys.length ≤ 1000) (by decide))).imp fun d e => ⟨_, e, by rw [List.length_append]; omega, fun d hd => ?_⟩
    exact (List.mem_append.mp hd).elim (x1 d) (x2 d)
theorem e_lstP (ha : EvA K I c1 tr Δ (fun ds => ds.length = n ∧ ∀ d ∈ ds, P d)) (hn : n ≤ 1000) : Ev K I c1 (tLst tr) Δ (fun d => ∃ xs : List Dt, d = .lst xs ∧ xs.length = n ∧ ∀ d ∈ xs, P d) :=
  ev_lst ha fun ds h => ⟨Nat.le_trans (by omega : ds.length ≤ 1000) (by decide), ds, rfl, h.1, h.2⟩
end
/-- a def that is never called -/
theorem fn_no {P : Program} {w : World} {K : PySem.W.Frag} {mg : Str → Option Value} {base : Heap} {k : Nat} {f : Addr} {fd : FuncData} {ps : List Str} {Io : List Dt → Res → Prop} {S : Spec} (h : ∀ ds c p, ¬ S ds c p) : FnOk P w K mg base CX0 k f fd ps (mk K Io S) :=
  ⟨fun vs H Q E ⟨ds, I, m, c, G, F, R, P, _, _, _, _, _, z, _⟩ => (h ds c P z).elim, fun A outer s H args us vs Q E _ _ _ _ ⟨ds, I, m, c, G, F, R, P, _, _, _, _, _, z, _⟩ => (h ds c P z).elim⟩
end Fw
set_option Elab.async false
set_option linter.all false
set_option maxRecDepth 100000
set_option maxHeartbeats 4000000
namespace Fw
open PySem PySem.Spec PyProof.Rows L2
open Evl (Ex)
section
variable {K : PySem.W.Frag} {I : Res} {Δ : Sl} {ta te : TE} {tr : TA} {P P1 : Dt → Prop} {Ps Qs : List Dt → Prop} {c1 c2 n : Nat}
theorem EvA.imp (h : EvA K I c1 tr Δ Ps) (hp : ∀ ds, Ps ds → Qs ds) : EvA K I c1 tr Δ Qs := fun m σ G F R H mb e i s Q q => h m σ G F R H mb e i s Q fun vs ds G' R' H' e' i' s' d' p' => q vs ds G' R' H' e' i' s' d' (hp ds p')
theorem ea_one (h : Ev K I c1 ta Δ P) : EvA K I c1 (tCons ta tNil) Δ (fun ds => ∃ d, ds = [d] ∧ P d) := (ea_cons h ea_nil).imp fun ds ⟨d, es, e1, p, e2⟩ => ⟨d, by rw [e1, e2], p⟩
theorem drawP {its : List Dt} (h : Ev K I c1 te Δ (fun r => ∃ xs : List Dt, r = .lst xs ∧ xs.length = its.length ∧ ∀ x ∈ xs, P x)) (hl : its.length = n) : Ev K I c1 te Δ (fun r => ∃ xs : List Dt, r = .lst xs ∧ xs.length = n ∧ ∀ x ∈ xs, P x) := hl ▸ h
end
theorem kit_lst {d : Dt} (h : plainD d = true) : kitB (tyN d) "list" = some (match d with | .lst _ => true | _ => false) := by
  cases d <;> first | (cases h; done) | (simp only [tyN]; decide +kernel)
theorem kit_dic {d : Dt} (h : plainD d = true) : kitB (tyN d) "dict" = some (match d with | .dic => true | _ => false) := by
  cases d <;> first | (cases h; done) | (simp only [tyN]; decide +kernel)
theorem kit_str {d : Dt} (h : plainD d = true) : kitB (tyN d) "str" = some (match d with | .str _ => true | _ => false) := by
  cases d <;> first | (cases h; done) | (simp only [tyN]; decide +kernel)
theorem eqS_self {x : Dt} (h : scalD x x = true) : eqS x x = true := by
  cases x <;> first | (cases h; done) | rfl | (simp [eqS]; done)
mutual
/-- what may be bent -/
def bnD : Dt → Bool
  | .non => true
  | .str s => PyData.strOk s
  | .int i => decide (i.natAbs < 10 ^ 50)
  | .tup xs => bnDs xs
  | .bl _ | .lst _ | .dic | .ptr _ | .cls _ | .scr _ => false
def bnDs : List Dt → Bool
  | [] => true
  | x :: xs => bnD x && bnDs xs
end
theorem bnDs_mem : ∀ {xs : List Dt}, bnDs xs = true → ∀ x ∈ xs, bnD x = true
  | y :: ys, h, x, hx => by
    have h2 := Bool.and_eq_true_iff.mp (show (bnD y && bnDs ys) = true from h)
    rcases List.mem_cons.mp hx with e | e
    · subst e
      exact h2.1
    · exact bnDs_mem h2.2 x e
theorem bnDs_of : ∀ {xs : List Dt}, (∀ x ∈ xs, bnD x = true) → bnDs xs = true
  | [], _ => rfl
  | y :: ys, h => by
    show (bnD y && bnDs ys) = true
    rw [h y List.mem_cons_self, bnDs_of fun x hx => h x (List.mem_cons_of_mem _ hx)]
    rfl
theorem nat50 {i : Nat} (h : i < 10 ^ 50) : i < 10 ^ 100 := Nat.lt_trans h (by decide +kernel)
mutual
theorem bn_lv : ∀ d : Dt, bnD d = true → lvD d = true ∧ flatD d = true
  | .non, _ => ⟨rfl, rfl⟩
  | .str s, h => ⟨h, rfl⟩
  | .int i, h => ⟨decide_eq_true (nat50 (of_decide_eq_true h)), rfl⟩
  | .tup xs, h => bn_lvs xs h
  | .bl _, h => by cases h
  | .lst _, h => by cases h
  | .dic, h => by cases h
  | .ptr _, h => by cases h
  | .cls _, h => by cases h
  | .scr _, h => by cases h
theorem bn_lvs : ∀ xs : List Dt, bnDs xs = true → lvDs xs = true ∧ flatDs xs = true
  | [], _ => ⟨rfl, rfl⟩
  | x :: xs, h => by
    have h2 := Bool.and_eq_true_iff.mp (show (bnD x && bnDs xs) = true from h)
    have a := bn_lv x h2.1
    have b := bn_lvs xs h2.2
    constructor
    · show (lvD x && lvDs xs) = true
      rw [a.1, b.1]
      rfl
    · show (flatD x && flatDs xs) = true
      rw [a.2, b.2]
      rfl
end
theorem bn_vec {n : Nat} {v : List Int} (h : isV n v) : bnD (vec v) = true := bnDs_of fun x hx => by
  obtain ⟨i, hi, rfl⟩ := List.mem_map.mp hx
  have h1 := h.lev i hi
  refine decide_eq_true ?_
  have h2 : i ≤ 1000000000000 := h1.2
  have h3 : i.natAbs ≤ 1000000000000 := by omega
  exact Nat.lt_of_le_of_lt h3 (by decide +kernel)
theorem bn_tbl {n : Nat} {t : List (List Int)} (h : isT n t) : bnD (tbl t) = true := bnDs_of fun x hx => by
  obtain ⟨r, hr, rfl⟩ := List.mem_map.mp hx
  exact bn_vec ⟨h.row r hr, h.lev r hr⟩
/-- a bent tuple's size -/
theorem bent_sz {xs : List Dt} {s : Nat} {y : Dt} {n k : Nat} (hs : s < xs.length) (hx : ∀ x ∈ xs, lvD x = true) (hk : ∀ x ∈ xs, dpD x ≤ k) (hy : Sz (2 * szD (xs[s]) + 120) (dpD xs[s] + 2) y) (hn : 2 * szDs xs + 120 ≤ n) :
    Sz n (k + 3) (.tup (cutD xs none (some (s : Int)) ++ [y] ++ cutD xs (some ((s : Int) + 1)) none)) := by
  have e1 : cutD xs none (some (s : Int)) = xs.take s := by
    unfold cutD
    rw [HT.sIx_none, HT.sIx_nat, List.drop_zero]
    rw [Nat.min_eq_left (by omega), Nat.sub_zero]
  have e2 : cutD xs (some ((s : Int) + 1)) none = xs.drop (s + 1) := by
    unfold cutD
    rw [HT.sIx_none, show ((s : Int) + 1) = ((s + 1 : Nat) : Int) by omega, HT.sIx_nat]
    rw [Nat.min_eq_left (by omega), List.take_of_length_le (by rw [List.length_drop]; omega)]
  rw [e1, e2]
  have e3 : szDs xs = szDs (xs.take s) + (szD xs[s] + 1) + szDs (xs.drop (s + 1)) := by
    have : xs = xs.take s ++ ([xs[s]] ++ xs.drop (s + 1)) := by
      rw [List.singleton_append, List.getElem_cons_drop, List.take_append_drop]
    have q := congrArg szDs this
    rw [szDs_app, szDs_app] at q
    have q2 : szDs [xs[s]] = szD xs[s] + 1 := rfl
    omega
  have hm := szDs_mem (List.getElem_mem hs)
  refine ⟨lvDs_iff.mpr fun x h => ?_, ?_, ?_⟩
  · rcases List.mem_append.mp h with h | h
    · rcases List.mem_append.mp h with h | h
      · exact hx x (List.mem_of_mem_take h)
      · rw [List.mem_singleton.mp h]
        exact hy.lv
    · exact hx x (List.mem_of_mem_drop h)
  · show szDs _ ≤ n
    rw [szDs_app, szDs_app]
    have q2 : szDs [y] = szD y + 1 := rfl
    have := hy.sz
    omega
  · refine Nat.succ_le_succ (dpDs_le fun x h => ?_)
    rcases List.mem_append.mp h with h | h
    · rcases List.mem_append.mp h with h | h
      · exact Nat.le_trans (hk x (List.mem_of_mem_take h)) (by omega)
      · rw [List.mem_singleton.mp h]
        have := hy.dp
        have := hk _ (List.getElem_mem hs)
        omega
    · exact Nat.le_trans (hk x (List.mem_of_mem_drop h)) (by omega)
theorem strI_sz {i : Int} (h : i.natAbs < 10 ^ 50) {k : Nat} {n : Nat} (hn : 120 ≤ n) : Sz n k (.str (toString i)) := by
  have h1 := int_text_length_le10 (k := 50) (by decide) h
  refine ⟨ofString_ok _, ?_, Nat.zero_le _⟩
  show (Str.ofString (toString i)).length ≤ n
  rw [PySem.ofString_length]
  omega
end Fw
set_option Elab.async false
set_option linter.all false
set_option maxRecDepth 100000
set_option maxHeartbeats 1000000
namespace KK
open PySem PySem.Spec PyProof.Rows L2 Fw
open Evl (Ex)
def topS (i : Nat) : Stmt := PySem.Challenge.pw_widthmix_k02_tables_or_not.main.body.getD i (.Pass ⟨0, 0, 0, 0⟩)
abbrev s_is_integer : Stmt := topS 4
theorem sc_is_integer : FnScope ["value"] ["value"] (defScope s_is_integer) := ⟨rfl, rfl, rfl, by decide +kernel, rfl, by decide +kernel, by decide +kernel⟩
abbrev s_is_level : Stmt := topS 5
theorem sc_is_level : FnScope ["value"] ["value"] (defScope s_is_level) := ⟨rfl, rfl, rfl, by decide +kernel, rfl, by decide +kernel, by decide +kernel⟩
abbrev s_is_tuple_of : Stmt := topS 6
theorem sc_is_tuple_of : FnScope ["value", "many"] ["value", "many"] (defScope s_is_tuple_of) := ⟨rfl, rfl, rfl, by decide +kernel, rfl, by decide +kernel, by decide +kernel⟩
abbrev s_are_levels : Stmt := topS 7
theorem sc_are_levels : FnScope ["value", "many", "part"] ["value", "many"] (defScope s_are_levels) := ⟨rfl, rfl, rfl, by decide +kernel, rfl, by decide +kernel, by decide +kernel⟩
abbrev s_is_table : Stmt := topS 9
theorem sc_is_table : FnScope ["value", "first", "row"] ["value"] (defScope s_is_table) := ⟨rfl, rfl, rfl, by decide +kernel, rfl, by decide +kernel, by decide +kernel⟩
abbrev s__law_deck : Stmt := topS 11
theorem sc__law_deck : FnScope ["_law_script", "_law_cells", "_law_cell"] ["_law_script"] (defScope s__law_deck) := ⟨rfl, rfl, rfl, by decide +kernel, rfl, by decide +kernel, by decide +kernel⟩
abbrev s__law_next : Stmt := topS 12
theorem sc__law_next : FnScope ["_law_deck_here", "_law_many", "_law_rest", "_law_cell", "_law_mixed"] ["_law_deck_here", "_law_many"] (defScope s__law_next) := ⟨rfl, rfl, rfl, by decide +kernel, rfl, by decide +kernel, by decide +kernel⟩
abbrev s__law_one : Stmt := topS 13
theorem sc__law_one : FnScope ["_law_deck_here", "_law_some"] ["_law_deck_here", "_law_some"] (defScope s__law_one) := ⟨rfl, rfl, rfl, by decide +kernel, rfl, by decide +kernel, by decide +kernel⟩
abbrev s__law_same : Stmt := topS 14
theorem sc__law_same : FnScope ["_law_found", "_law_due", "_law_k"] ["_law_found", "_law_due"] (defScope s__law_same) := ⟨rfl, rfl, rfl, by decide +kernel, rfl, by decide +kernel, by decide +kernel⟩
abbrev s__law_whole : Stmt := topS 15
theorem sc__law_whole : FnScope ["_law_thing"] ["_law_thing"] (defScope s__law_whole) := ⟨rfl, rfl, rfl, by decide +kernel, rfl, by decide +kernel, by decide +kernel⟩
abbrev s__law_odd : Stmt := topS 16
theorem sc__law_odd : FnScope ["_law_deck_here", "_law_some"] ["_law_deck_here"] (defScope s__law_odd) := ⟨rfl, rfl, rfl, by decide +kernel, rfl, by decide +kernel, by decide +kernel⟩
abbrev s__law_bent : Stmt := topS 17
theorem sc__law_bent : FnScope ["_law_deck_here", "_law_thing", "_law_deep", "_law_spot"] ["_law_deck_here", "_law_thing", "_law_deep"] (defScope s__law_bent) := ⟨rfl, rfl, rfl, by decide +kernel, rfl, by decide +kernel, by decide +kernel⟩
abbrev s__law_great : Stmt := topS 18
theorem sc__law_great : FnScope ["_law_deck_here"] ["_law_deck_here"] (defScope s__law_great) := ⟨rfl, rfl, rfl, by decide +kernel, rfl, by decide +kernel, by decide +kernel⟩
abbrev s__law_level : Stmt := topS 19
theorem sc__law_level : FnScope ["_law_deck_here", "_law_great_here"] ["_law_deck_here", "_law_great_here"] (defScope s__law_level) := ⟨rfl, rfl, rfl, by decide +kernel, rfl, by decide +kernel, by decide +kernel⟩
abbrev s__law_row : Stmt := topS 20
theorem sc__law_row : FnScope ["_law_deck_here", "_law_great_here", "_law_count", "_law_k"] ["_law_deck_here", "_law_great_here", "_law_count"] (defScope s__law_row) := ⟨rfl, rfl, rfl, by decide +kernel, rfl, by decide +kernel, by decide +kernel⟩
abbrev s__law_table : Stmt := topS 21
theorem sc__law_table : FnScope ["_law_deck_here", "_law_great_here", "_law_outlets", "_law_inlets", "_law_k"] ["_law_deck_here", "_law_great_here", "_law_outlets", "_law_inlets"] (defScope s__law_table) := ⟨rfl, rfl, rfl, by decide +kernel, rfl, by decide +kernel, by decide +kernel⟩
abbrev s__law_are_levels : Stmt := topS 22
theorem sc__law_are_levels : FnScope ["_law_thing", "_law_count", "_law_one_here"] ["_law_thing", "_law_count"] (defScope s__law_are_levels) := ⟨rfl, rfl, rfl, by decide +kernel, rfl, by decide +kernel, by decide +kernel⟩
abbrev s__law_is_table : Stmt := topS 23
theorem sc__law_is_table : FnScope ["_law_thing", "_law_row_here"] ["_law_thing"] (defScope s__law_is_table) := ⟨rfl, rfl, rfl, by decide +kernel, rfl, by decide +kernel, by decide +kernel⟩
abbrev s_law : Stmt := topS 24
theorem sc_law : FnScope ["_law_script", "_law_deck_here", "_law_turn", "_law_table_here", "_law_some", "_law_thing", "_law_kept", "_law_k"] ["_law_script"] (defScope s_law) := ⟨rfl, rfl, rfl, by decide +kernel, rfl, by decide +kernel, by decide +kernel⟩
theorem fm_congr {α β : Type} {f g : α → Option β} : ∀ l : List α, (∀ x, f x = g x) → l.filterMap f = l.filterMap g
  | [], _ => rfl
  | x :: l, h => by
    rw [List.filterMap_cons, List.filterMap_cons, h x, fm_congr l h]
def holds (t : List (List Int)) (w : List Int) (j : Nat) : List Int := (List.zip t w).filterMap fun p => if p.2 < p.1.getD j 0 then some p.2 else none
def upLev (t : List (List Int)) (w : List Int) (j : Nat) : Int := mnD (holds t w j) TOPI
def upper (t : List (List Int)) (w : List Int) (n : Nat) : List Int := (List.range n).map fun j => upLev t w j
theorem holds_mem {t : List (List Int)} {w : List Int} {j : Nat} {y : Int} (h : y ∈ holds t w j) : y ∈ w := by
  unfold holds at h
  obtain ⟨p, hp, e⟩ := List.mem_filterMap.mp h
  split at e
  · cases e
    exact (List.of_mem_zip hp).2
  · cases e
theorem upLev_lev {n : Nat} {t : List (List Int)} {w : List Int} (ht : isT n t) (hw : isV t.length w) (j : Nat) : 0 ≤ upLev t w j ∧ upLev t w j ≤ TOPI := by
  unfold upLev
  by_cases h : holds t w j = []
  · rw [h]
    decide
  · exact hw.lev _ (holds_mem (mnD_mem h))
theorem upper_isV {n : Nat} {t : List (List Int)} {w : List Int} (ht : isT n t) (hw : isV t.length w) : isV n (upper t w n) := by
  refine ⟨by unfold upper; rw [List.length_map, List.length_range], fun x hx => ?_⟩
  obtain ⟨j, _, rfl⟩ := List.mem_map.mp hx
  exact upLev_lev ht hw j
theorem zipD_rows : ∀ (t : List (List Int)) (w : List Int), zipD (t.map fun r => vec r) (iL w) = (List.zip t w).map fun p => Dt.tup [vec p.1, .int p.2]
  | [], w => by cases w <;> rfl
  | _ :: _, [] => rfl
  | x :: t, y :: w => by
    show Dt.tup [vec x, .int y] :: zipD (t.map fun r => vec r) (iL w) = Dt.tup [vec x, .int y] :: (List.zip t w).map _
    rw [zipD_rows t w]
theorem zipD_ints : ∀ r v : List Int, zipD (iL r) (iL v) = (List.zip r v).map fun p => Dt.tup [.int p.1, .int p.2]
  | [], v => by cases v <;> rfl
  | _ :: _, [] => rfl
  | x :: r, y :: v => by
    show Dt.tup [.int x, .int y] :: zipD (iL r) (iL v) = Dt.tup [.int x, .int y] :: (List.zip r v).map _
    rw [zipD_ints r v]
def unI : Dt → List Int
  | .tup xs => xs.filterMap fun d => match d with
    | .int i => some i
    | _ => none
  | _ => []
theorem unI_vec (r : List Int) : unI (vec r) = r := by
  show (iL r).filterMap _ = r
  rw [List.filterMap_map]
  show r.filterMap (fun i => some i) = r
  exact List.filterMap_some
def solD (n : Nat) (t : List (List Int)) (w : List Int) (d : Dt) : Bool := areLevD d n && decide (levs t (unI d) = w)
theorem areLev_inv {d : Dt} {n : Nat} (h : areLevD d n = true) : ∃ v, d = vec v ∧ isV n v := by
  cases d with
  | tup xs =>
    have h2 : (decide ((xs.length : Int) = n) && xs.all isLevD) = true := h
    rw [Bool.and_eq_true, List.all_eq_true] at h2
    have e : xs = iL (unI (.tup xs)) := by
      have key : ∀ ys : List Dt, (∀ y ∈ ys, isLevD y = true) → ys = iL (unI (.tup ys)) := fun ys => by
        induction ys with
        | nil => exact fun _ => rfl
        | cons y ys ih =>
          intro hy
          have h3 := hy y List.mem_cons_self
          cases y with
          | int i =>
            show Dt.int i :: ys = Dt.int i :: iL (unI (.tup ys))
            rw [← ih fun z hz => hy z (List.mem_cons_of_mem _ hz)]
          | _ => cases h3
      exact key xs h2.2
    refine ⟨unI (.tup xs), by rw [show vec (unI (.tup xs)) = Dt.tup (iL (unI (.tup xs))) from rfl, ← e], ?_⟩
    rw [e] at h
    exact areLev_vec.mp h
  | _ => cases h
theorem flat_mem : ∀ {xs : List Dt}, flatDs xs = true → ∀ x ∈ xs, flatD x = true
  | y :: ys, h, x, hx => by
    have h2 := Bool.and_eq_true_iff.mp (show (flatD y && flatDs ys) = true from h)
    rcases List.mem_cons.mp hx with e | e
    · subst e
      exact h2.1
    · exact flat_mem h2.2 x e
theorem all_empty {xs : List Dt} {f : Dt → Bool} : (xs.filterMap fun d => if f d then none else some d).isEmpty = xs.all f := by
  induction xs with
  | nil => rfl
  | cons x xs ih =>
    rw [List.filterMap_cons, List.all_cons]
    cases h : f x with
    | true =>
      rw [Bool.true_and, ← ih]
      rfl
    | false => rfl
def isTblD (d : Dt) : Bool := match d with
  | .tup (.tup ys :: xs) => decide (((Dt.tup ys :: xs).length : Int) ≤ 6) && ((decide (1 ≤ (ys.length : Int)) && decide ((ys.length : Int) ≤ 6)) && (Dt.tup ys :: xs).all fun r => areLevD r ys.length)
  | _ => false
def sp_is_integer (K : PySem.W.Frag) : Sp := mk K anyI fun ds _ p => ∃ d, ds = [d] ∧ valD d = true ∧ p (.bl (isIntD d))
def sp_is_level (K : PySem.W.Frag) : Sp := mk K anyI fun ds _ p => ∃ d, ds = [d] ∧ valD d = true ∧ p (.bl (isLevD d))
def sp_is_tuple_of (K : PySem.W.Frag) : Sp := mk K anyI fun ds _ p => ∃ d n, ds = [d, .int n] ∧ valD d = true ∧ p (.bl (isTupN d n))
def sp_are_levels (K : PySem.W.Frag) : Sp := mk K anyI fun ds _ p => ∃ d n, ds = [d, .int n] ∧ valD d = true ∧ n ≤ 1000 ∧ p (.bl (areLevD d n))
def sp_is_table (K : PySem.W.Frag) : Sp := mk K anyI fun ds _ p => ∃ d, ds = [d] ∧ valD d = true ∧ p (.bl (isTblD d))
section
variable {P : Program} {w : World} {K : PySem.W.Frag} {mg : Str → Option Value} {base : Heap}
theorem ok_is_integer {a0 : Addr} {fd0 : FuncData} (F0 : Fun K "is_integer" "is_integer" s_is_integer a0 fd0) (z_isinstance : mg "isinstance" = none) (z_int : mg "int" = none) (z_bool : mg "bool" = none) : FnOk P w K mg base CX0 1 a0 fd0 ["value"] (sp_is_integer K) := by
  refine fn_mk F0 sc_is_integer (fun ds c p h => ?_) (fun cdv A outer s H E hr => ⟨_, (pss_one (by exact ps_ret (by exact pe_and (by exact pe_callB (isiK K) (by rfl) z_isinstance boot_isinstance (by exact pa_cons (pv 0) (by exact pa_cons (by exact pe_bltn (v := .ty "int") (by rfl) z_int boot_int rfl) pa_nil))) (by exact pe_one (by exact pe_not (by exact pe_callB (isiK K) (by rfl) z_isinstance boot_isinstance (by exact pa_cons (pv 0) (by exact pa_cons (by exact pe_bltn (v := .ty "bool") (by rfl) z_bool boot_bool rfl) pa_nil)))))))), fun ds I c R hI hS => ?_⟩)
  · obtain ⟨d, rfl, _⟩ := h
    rfl
  · obtain ⟨d, rfl, hv, hp⟩ := hS
    have hpl := valD.plain hv
    refine Sv.le (sv_ret ((e_and (e_cb (a_cons (ev_var rfl) (a_cons ev_cls a_nil)) (cd_isi hpl (kit_int hpl))) fun _ => e_not (e_cb (a_cons (ev_var rfl) (a_cons ev_cls a_nil)) (cd_isi hpl (kit_bool hpl)))).imp fun _ e => ?_)) (by omega)
    rw [e]
    cases d <;> first | exact hp | (cases hpl; done)
theorem ok_is_level {a0 : Addr} {fd0 : FuncData} (F0 : Fun K "is_level" "is_level" s_is_level a0 fd0) (C_is_integer : Cal P w K mg base 1 "is_integer" ["value"] (sp_is_integer K)) (m_TOP : ∃ t, mg "TOP" = some (.int 1000000000000 t)) : FnOk P w K mg base CX0 2 a0 fd0 ["value"] (sp_is_level K) := by
  refine fn_mk F0 sc_is_level (fun ds c p h => ?_) (fun cdv A outer s H E hr => ⟨_, (pss_one (by exact ps_ret (by exact pe_and (by exact pe_cal C_is_integer (hr.mono (by first | decide | omega)) (by rfl) (by exact pa_cons (pv 0) pa_nil)) (by exact pe_one (by exact pe_chain op_le op_le pe_int (pv 0) (by exact pe_gint m_TOP (by rfl))))))), fun ds I c R hI hS => ?_⟩)
  · obtain ⟨d, rfl, _⟩ := h
    rfl
  · obtain ⟨d, rfl, hv, hp⟩ := hS
    cases hi : isIntD d with
    | false =>
      refine Sv.le (sv_ret ((e_and (c2 := 0) (b := isIntD d) (b2 := false) (e_call (c2 := 0) (a_cons (ev_var rfl) a_nil) trivial ⟨d, rfl, hv, rfl⟩) fun e => ?_).imp fun _ e => ?_)) (by omega)
      · rw [hi] at e
        cases e
      · rw [e, hi]
        cases d <;> first | exact hp | (cases hi; done)
    | true =>
      cases d with
      | int i =>
        refine Sv.le (sv_ret ((e_and (e_call (c2 := 0) (a_cons (ev_var rfl) a_nil) trivial ⟨.int i, rfl, hv, rfl⟩) fun e => e_chain ev_int (ev_var rfl) opd_le (fun _ => ev_int) (fun _ => opd_le)).imp fun _ e => ?_)) (by omega)
        rw [e]
        exact hp
      | _ => cases hi
theorem ok_is_tuple_of {a0 : Addr} {fd0 : FuncData} (F0 : Fun K "is_tuple_of" "is_tuple_of" s_is_tuple_of a0 fd0) (z_isinstance : mg "isinstance" = none) (z_tuple : mg "tuple" = none) (z_len : mg "len" = none) : FnOk P w K mg base CX0 1 a0 fd0 ["value", "many"] (sp_is_tuple_of K) := by
  refine fn_mk F0 sc_is_tuple_of (fun ds c p h => ?_) (fun cdv A outer s H E hr => ⟨_, (pss_one (by exact ps_ret (by exact pe_and (by exact pe_callB (isiK K) (by rfl) z_isinstance boot_isinstance (by exact pa_cons (pv 0) (by exact pa_cons (by exact pe_bltn (v := .ty "tuple") (by rfl) z_tuple boot_tuple rfl) pa_nil))) (by exact pe_one (by exact pe_cmpR op_eq (by exact pe_callB (lenK K) (by rfl) z_len PySem.boot_len (by exact pa_cons (pv 0) pa_nil)) (pv 1) (nomark _)))))), fun ds I c R hI hS => ?_⟩)
  · obtain ⟨d, n, rfl, _⟩ := h
    rfl
  · obtain ⟨d, n, rfl, hv, hp⟩ := hS
    have hpl := valD.plain hv
    cases hi : isTupD d with
    | false =>
      refine Sv.le (sv_ret ((e_and (c2 := 0) (b := isTupD d) (b2 := false) (e_cb (a_cons (ev_var rfl) (a_cons ev_cls a_nil)) (cd_isi hpl (kit_tup hpl))) fun e => ?_).imp fun _ e => ?_)) (by omega)
      · rw [hi] at e
        cases e
      · rw [e, hi]
        cases d <;> first | exact hp | (cases hi; done)
    | true =>
      cases d with
      | tup xs =>
        refine Sv.le (sv_ret ((e_and (e_cb (a_cons (ev_var rfl) (a_cons ev_cls a_nil)) (cd_isi hpl (kit_tup hpl))) fun e => e_op (e_cb (a_cons (ev_var rfl) a_nil) (cd_len rfl)) (ev_var rfl) (opd_eq rfl)).imp fun _ e => ?_)) (by omega)
        rw [e]
        exact hp
      | _ => cases hi
theorem ok_are_levels {a0 : Addr} {fd0 : FuncData} (F0 : Fun K "are_levels" "are_levels" s_are_levels a0 fd0) (C_is_tuple_of : Cal P w K mg base 1 "is_tuple_of" ["value", "many"] (sp_is_tuple_of K)) (C_is_level : Cal P w K mg base 2 "is_level" ["value"] (sp_is_level K)) (z_all : mg "all" = none) : FnOk P w K mg base CX0 3 a0 fd0 ["value", "many"] (sp_are_levels K) := by
  refine fn_mk F0 sc_are_levels (fun ds c p h => ?_) (fun cdv A outer s H E hr => ⟨_, (pss_one (by exact ps_ret (by exact pe_and (by exact pe_cal C_is_tuple_of (hr.mono (by first | decide | omega)) (by rfl) (by exact pa_cons (pv 0) (by exact pa_cons (pv 1) pa_nil))) (by exact pe_one (by exact pe_callB (allK K) (by rfl) z_all boot_all (by exact pa_cons (by exact pe_lc (own := [("part", 2)]) (g := gName 2) (by rfl) sc_are_levels.nd (by exact piT K (pv 0)) (blkOk_by (own := [("part", 2)]) (N := ["value", "many", "part"]) (sc := defScope s_are_levels) (by decide +kernel)) (fun _ _ _ _ _ => (by exact pg_name (i := 2) sc_are_levels.nd rfl (.inl rfl))) (fun _ _ _ _ _ => pts_nil) (fun _ _ _ _ _ => (by exact pe_cal C_is_level (hr.mono (by first | decide | omega)) (by rfl) (by exact pa_cons (pv 2) pa_nil)))) pa_nil)))))), fun ds I c R hI hS => ?_⟩)
  · obtain ⟨d, n, rfl, _⟩ := h
    rfl
  · obtain ⟨d, n, rfl, hv, hn, hp⟩ := hS
    cases hi : isTupN d n with
    | false =>
      refine Sv.le (sv_ret ((e_and (c2 := 0) (b := isTupN d n) (b2 := false) (e_call (c2 := 0) (a_cons (ev_var rfl) (a_cons (ev_var rfl) a_nil)) trivial ⟨d, n, rfl, hv, rfl⟩) fun e => ?_).imp fun _ e => ?_)) (by omega)
      · rw [hi] at e
        cases e
      · have z : areLevD d n = false := by
          cases d with
          | tup xs =>
            show (isTupN (.tup xs) n && xs.all isLevD) = false
            rw [hi]
            rfl
          | _ => rfl
        rw [z] at hp
        rw [e, hi]
        exact hp
    | true =>
      cases d with
      | tup xs =>
        have hl : (xs.length : Int) = n := of_decide_eq_true hi
        refine Sv.le (sv_ret ((e_and (e_call (c2 := 0) (a_cons (ev_var rfl) (a_cons (ev_var rfl) a_nil)) trivial ⟨.tup xs, n, rfl, hv, rfl⟩) fun e => e_cb (ds := [.lst ((xs.map isLevD).map Dt.bl)]) (a_cons ((e_map (n := 1000) (fun d Δ => Δ.set 2 (some d)) (fun d => .bl (isLevD d)) (i_tup (ev_var rfl)) (by omega) (by decide) (fun j h => h) fun d hd => ⟨gd_name, e_call (c2 := 0) (a_cons (ev_var rfl) a_nil) trivial ⟨d, rfl, valD_tup hv d hd, rfl⟩⟩).to (by rw [List.map_map]; rfl)) a_nil) cd_all).imp fun _ e => ?_)) (by omega)
        rw [e, List.all_map]
        exact hp
      | _ => cases hi
theorem ok_is_table {a0 : Addr} {fd0 : FuncData} (F0 : Fun K "is_table" "is_table" s_is_table a0 fd0) (C_are_levels : Cal P w K mg base 3 "are_levels" ["value", "many"] (sp_are_levels K)) (z_all : mg "all" = none) (z_isinstance : mg "isinstance" = none) (z_tuple : mg "tuple" = none) (z_len : mg "len" = none) (m_MAX_OUTLETS : ∃ t, mg "MAX_OUTLETS" = some (.int 6 t)) (m_MAX_INLETS : ∃ t, mg "MAX_INLETS" = some (.int 6 t)) : FnOk P w K mg base CX0 4 a0 fd0 ["value"] (sp_is_table K) := by
  refine fn_mk F0 sc_is_table (fun ds c p h => ?_) (fun cdv A outer s H E hr => ⟨_, (pss_cons (by exact ps_if (by exact PW.pt (by exact pw_or (by exact pt_not (by exact pt_val (by exact pe_callB (isiK K) (by rfl) z_isinstance boot_isinstance (by exact pa_cons (pv 0) (by exact pa_cons (by exact pe_bltn (v := .ty "tuple") (by rfl) z_tuple boot_tuple rfl) pa_nil))))) (by exact pw_or1 (by exact pt_not (by exact pt_chain op_le op_le pe_int (by exact pe_callB (lenK K) (by rfl) z_len PySem.boot_len (by exact pa_cons (pv 0) pa_nil)) (by exact pe_gint m_MAX_OUTLETS (by rfl))))))) (by exact pss_one (by exact ps_ret pe_bl)) pss_nil) (by exact pss_cons (by exact ps_set (i := 1) sc_is_table.nd rfl (.inr rfl) (by exact pe_ix (ixs K) (pv 0) pe_int (fun _ _ => rfl))) (by exact pss_cons (by exact ps_if (by exact PW.pt (by exact pw_or (by exact pt_not (by exact pt_val (by exact pe_callB (isiK K) (by rfl) z_isinstance boot_isinstance (by exact pa_cons (pv 1) (by exact pa_cons (by exact pe_bltn (v := .ty "tuple") (by rfl) z_tuple boot_tuple rfl) pa_nil))))) (by exact pw_or1 (by exact pt_not (by exact pt_chain op_le op_le pe_int (by exact pe_callB (lenK K) (by rfl) z_len PySem.boot_len (by exact pa_cons (pv 1) pa_nil)) (by exact pe_gint m_MAX_INLETS (by rfl))))))) (by exact pss_one (by exact ps_ret pe_bl)) pss_nil) (by exact pss_one (by exact ps_ret (by exact pe_callB (allK K) (by rfl) z_all boot_all (by exact pa_cons (by exact pe_lc (own := [("row", 2)]) (g := gName 2) (by rfl) sc_is_table.nd (by exact piT K (pv 0)) (blkOk_by (own := [("row", 2)]) (N := ["value", "first", "row"]) (sc := defScope s_is_table) (by decide +kernel)) (fun _ _ _ _ _ => (by exact pg_name (i := 2) sc_is_table.nd rfl (.inl rfl))) (fun _ _ _ _ _ => pts_nil) (fun _ _ _ _ _ => (by exact pe_cal C_are_levels (hr.mono (by first | decide | omega)) (by rfl) (by exact pa_cons (pv 2) (by exact pa_cons (by exact pe_callB (lenK K) (by rfl) z_len PySem.boot_len (by exact pa_cons (pv 1) pa_nil)) pa_nil))))) pa_nil))))))), fun ds I c R hI hS => ?_⟩)
  · obtain ⟨d, rfl, _⟩ := h
    rfl
  · obtain ⟨d, rfl, hv, hp⟩ := hS
    have hpl := valD.plain hv
    cases hi : isTupD d with
    | false =>
      refine Sv.le (v_ifs (c2 := 0) (c3 := 0) (t_or (b2 := false) (c2 := 0) (t_not (t_B (e_cb (a_cons (ev_var rfl) (a_cons ev_cls a_nil)) (cd_isi hpl (kit_tup hpl))))) fun e => ?_) (fun _ => sv_retS (ev_bl.imp fun _ e => ?_)) fun e => v_no ?_) (by omega)
      · rw [hi] at e
        cases e
      · have z : isTblD d = false := by
          cases d <;> first | rfl | (cases hi; done)
        rw [z] at hp
        rw [e]
        exact hp
      · rw [hi] at e
        cases e
    | true =>
      cases d with
      | tup xs =>
        refine Sv.le (v_ifs (c2 := 0) (c3 := 0) (t_or (c2 := 0) (t_not (t_B (e_cb (a_cons (ev_var rfl) (a_cons ev_cls a_nil)) (cd_isi hpl (kit_tup hpl))))) fun _ => t_not (t_chain ev_int (e_cb (a_cons (ev_var rfl) a_nil) (cd_len rfl)) opd_le (fun _ => ev_int) (fun _ => opd_le))) (fun e => sv_retS (ev_bl.imp fun _ e2 => ?_)) fun e => sv_nextS ?_) (by omega)
        · have e3 : (!(decide (1 ≤ (xs.length : Int)) && decide ((xs.length : Int) ≤ 6))) = true := e
          have z : isTblD (.tup xs) = false := by
            match xs with
            | [] => rfl
            | .tup ys :: l =>
              have e4 : decide (((Dt.tup ys :: l).length : Int) ≤ 6) = false := by
                rw [Bool.not_eq_true', Bool.and_eq_false_iff] at e3
                rcases e3 with q | q
                · have := of_decide_eq_false q
                  rw [List.length_cons] at this
                  omega
                · exact q
              show (decide (((Dt.tup ys :: l).length : Int) ≤ 6) && _) = false
              rw [e4]
              rfl
            | .non :: _ => rfl
            | .bl _ :: _ => rfl
            | .int _ :: _ => rfl
            | .str _ :: _ => rfl
            | .lst _ :: _ => rfl
            | .dic :: _ => rfl
            | .ptr _ :: _ => rfl
            | .cls _ :: _ => rfl
            | .scr _ :: _ => rfl
          rw [z] at hp
          rw [e2]
          exact hp
        · have e3 : (!(decide (1 ≤ (xs.length : Int)) && decide ((xs.length : Int) ≤ 6))) = false := e
          rw [Bool.not_eq_false', Bool.and_eq_true, decide_eq_true_eq, decide_eq_true_eq] at e3
          obtain ⟨f, l, rfl⟩ : ∃ f l, xs = f :: l := by
            cases xs with
            | nil => exact absurd e3.1 (by decide)
            | cons f l => exact ⟨f, l, rfl⟩
          have hvf := valD_tup hv f List.mem_cons_self
          have hpf := valD.plain hvf
          have at0 : atI (f :: l) (0 : Int) = some f := atI_nat (j := 0) rfl
          refine Sv.le (v_set (c2 := 0) (P := (· = f)) (e_op (ev_var rfl) ev_int (opd_ix rfl at0)) fun d hd => ?_) (by omega)
          rw [show d = f from hd]
          clear hd
          cases hj : isTupD f with
          | false =>
            refine Sv.le (v_ifs (c2 := 0) (c3 := 0) (t_or (b2 := false) (c2 := 0) (t_not (t_B (e_cb (a_cons (ev_var rfl) (a_cons ev_cls a_nil)) (cd_isi hpf (kit_tup hpf))))) fun e => ?_) (fun _ => sv_retS (ev_bl.imp fun _ e => ?_)) fun e => v_no ?_) (by omega)
            · rw [hj] at e
              cases e
            · have z : isTblD (.tup (f :: l)) = false := by
                cases f <;> first | rfl | (cases hj; done)
              rw [z] at hp
              rw [e]
              exact hp
            · rw [hj] at e
              cases e
          | true =>
            cases f with
            | tup ys =>
              have z : isTblD (.tup (.tup ys :: l)) = ((decide (1 ≤ (ys.length : Int)) && decide ((ys.length : Int) ≤ 6)) && (Dt.tup ys :: l).all fun r => areLevD r ys.length) := by
                show (decide (((Dt.tup ys :: l).length : Int) ≤ 6) && _) = _
                rw [decide_eq_true e3.2, Bool.true_and]
              rw [z] at hp
              refine Sv.le (v_ifs (c2 := 0) (c3 := 0) (t_or (c2 := 0) (t_not (t_B (e_cb (a_cons (ev_var rfl) (a_cons ev_cls a_nil)) (cd_isi hpf (kit_tup hpf))))) fun _ => t_not (t_chain ev_int (e_cb (a_cons (ev_var rfl) a_nil) (cd_len rfl)) opd_le (fun _ => ev_int) (fun _ => opd_le))) (fun e => sv_retS (ev_bl.imp fun _ e2 => ?_)) fun e => sv_nextS ?_) (by omega)
              · have e4 : (!(decide (1 ≤ (ys.length : Int)) && decide ((ys.length : Int) ≤ 6))) = true := e
                rw [Bool.not_eq_true'] at e4
                rw [e4] at hp
                rw [e2]
                exact hp
              · have e4 : (!(decide (1 ≤ (ys.length : Int)) && decide ((ys.length : Int) ≤ 6))) = false := e
                rw [Bool.not_eq_false'] at e4
                rw [e4, Bool.true_and] at hp
                rw [Bool.and_eq_true, decide_eq_true_eq, decide_eq_true_eq] at e4
                have hlen : (Dt.tup ys :: l).length ≤ 6 := by omega
                refine Sv.le (sv_ret ((e_cb (ds := [.lst (((Dt.tup ys :: l).map fun r => areLevD r ys.length).map Dt.bl)]) (a_cons ((e_map (ce := 0) (n := 6) (js := [2]) (fun d Δ => Δ.set 2 (some d)) (fun d => .bl (areLevD d ys.length)) (i_tup (ev_var rfl)) hlen (by decide) (fun j h => h) fun d hd => ⟨gd_name, e_call (c2 := 0) (a_cons (ev_var rfl) (a_cons (e_cb (a_cons (ev_var rfl) a_nil) (cd_len rfl)) a_nil)) trivial ⟨d, _, rfl, valD_tup hv d hd, by omega, rfl⟩⟩).to (by rw [List.map_map]; rfl)) a_nil) cd_all).imp fun _ e => ?_)) (by omega)
                rw [e, List.all_map]
                exact hp
            | _ => cases hj
      | _ => cases hi
end
end KK
set_option Elab.async false
set_option linter.all false
set_option maxRecDepth 100000
set_option maxHeartbeats 1000000
namespace KK
open PySem PySem.Spec PyProof.Rows L2 Fw
open Evl (Ex)
def sp__law_deck (K : PySem.W.Frag) : Sp := mk K anyI fun ds _ p => ∃ ns, ds = [.scr ns] ∧ ns.length ≤ 63 ∧ p (deckD ns)
def sp__law_one (K : PySem.W.Frag) : Sp := mk K deckI fun ds c p => ∃ a xs, ds = [.ptr a, .lst xs] ∧ xs ≠ [] ∧ xs.length ≤ 1000 ∧ c = 1 ∧ ∀ x ∈ xs, p x
def sp__law_great (K : PySem.W.Frag) : Sp := mk K deckI fun ds c p => ∃ a, ds = [.ptr a] ∧ c = 1 ∧ ∀ g : Int, 1 ≤ g → g ≤ TOPI → p (.int g)
def sp__law_level (K : PySem.W.Frag) : Sp := mk K deckI fun ds c p => ∃ a g, ds = [.ptr a, .int g] ∧ 1 ≤ g ∧ g ≤ TOPI ∧ c = 3 ∧ ∀ i : Int, 0 ≤ i → i ≤ TOPI → p (.int i)
def sp__law_row (K : PySem.W.Frag) : Sp := mk K deckI fun ds c p => ∃ a g n, ds = [.ptr a, .int g, .int (n : Nat)] ∧ 1 ≤ g ∧ g ≤ TOPI ∧ n ≤ 6 ∧ c = 18 ∧ ∀ v, isV n v → p (vec v)
def sp__law_table (K : PySem.W.Frag) : Sp := mk K deckI fun ds c p => ∃ a g o i, ds = [.ptr a, .int g, .int o, .int i] ∧ 1 ≤ g ∧ g ≤ TOPI ∧ 1 ≤ o ∧ o ≤ 6 ∧ 1 ≤ i ∧ i ≤ 6 ∧ c = 110 ∧ ∀ n t, isT n t → p (tbl t)
def sp__law_next (K : PySem.W.Frag) : Sp := mk K deckI nextS
theorem lev_list {n : Nat} : ∀ {xs : List Dt}, xs.length = n → (∀ x ∈ xs, ∃ i : Int, x = .int i ∧ 0 ≤ i ∧ i ≤ TOPI) → ∃ v, Dt.tup xs = vec v ∧ isV n v := by
  intro xs hl hx
  have key : ∀ ys : List Dt, (∀ x ∈ ys, ∃ i : Int, x = .int i ∧ 0 ≤ i ∧ i ≤ TOPI) → ∃ v : List Int, ys = iL v ∧ ∀ x ∈ v, 0 ≤ x ∧ x ≤ TOPI := fun ys => by
    induction ys with
    | nil => exact fun _ => ⟨[], rfl, fun x h => by cases h⟩
    | cons y ys ih =>
      intro h
      obtain ⟨i, rfl, i0, i1⟩ := h y List.mem_cons_self
      obtain ⟨v, rfl, hv⟩ := ih fun x hx => h x (List.mem_cons_of_mem _ hx)
      refine ⟨i :: v, rfl, fun x hx => ?_⟩
      rcases List.mem_cons.mp hx with e | e
      · subst e
        exact ⟨i0, i1⟩
      · exact hv x e
  obtain ⟨v, rfl, hv⟩ := key xs hx
  exact ⟨v, rfl, by rw [← hl, List.length_map], hv⟩
theorem row_list {n : Nat} : ∀ {xs : List Dt}, (∀ x ∈ xs, ∃ v, x = vec v ∧ isV n v) → ∃ t : List (List Int), xs = t.map (fun r => vec r) ∧ ∀ r ∈ t, isV n r
  | [], _ => ⟨[], rfl, fun x h => by cases h⟩
  | y :: ys, h => by
    obtain ⟨v, rfl, hv⟩ := h y List.mem_cons_self
    obtain ⟨t, rfl, ht⟩ := row_list fun x hx => h x (List.mem_cons_of_mem _ hx)
    refine ⟨v :: t, rfl, fun x hx => ?_⟩
    rcases List.mem_cons.mp hx with e | e
    · subst e
      exact hv
    · exact ht x e
section
variable {P : Program} {w : World} {K : PySem.W.Frag} {mg : Str → Option Value} {base : Heap}
theorem ok__law_next {a0 : Addr} {fd0 : FuncData} (F0 : Fun K "_law_next" "_law_next" s__law_next a0 fd0) (z_len : mg "len" = none) : FnOk P w K mg base CX0 1 a0 fd0 ["_law_deck_here", "_law_many"] (sp__law_next K) := by
  refine F0.ok sc__law_next (fun vs H Q E h => ?_) (fun cdv A outer s H vs Q E hr h => ?_)
  · obtain ⟨ds, I, m, c, G, F, R, P', hd, _, _, _, _, hS, _⟩ := h
    obtain ⟨a, k, rfl, _⟩ := hS
    rw [hd.len]
    rfl
  · obtain ⟨ds, I, m, c, G, F, R, P', hd, hI, mb, hR, sp, hS, q⟩ := h
    obtain ⟨a, k, rfl, k1, k2, rfl, hP⟩ := hS
    obtain ⟨a', r', e1, rfl⟩ := hI
    cases e1
    cases hd with
    | cons hd1 hd2 =>
    cases hd2 with
    | cons hd2 hd3 =>
    cases hd3
    cases hd1
    cases hd2
    have Fnd := sc__law_next.nd
    refine ⟨_, pss_cons (ps_while PassesOwn.never (pt_cmpR (neK K hr.units) (pe_ix ix_list (pv 0) pe_int (fun _ _ => rfl)) (pe_lst pa_nil) (nomark _))
        (pss_cons (ps_set (i := 2) sc__law_next.nd rfl (.inl rfl) (pe_ix ix_list (pe_ix ix_list (pv 0) pe_int (fun _ _ => rfl)) pe_int (fun _ _ => rfl)))
        (pss_cons (ps_if (pt_cmpR op_gt (pv 2) pe_int (nomark _))
            (pss_cons (ps_asg (pe_op op_fdivW (pv 2) (pv 1)) (pg_sub (pe_ix ix_list (pv 0) pe_int (fun _ _ => rfl)) pe_int set_list))
            (pss_one (ps_ret (pe_op op_mod (pv 2) (pv 1))))) pss_nil)
        (pss_one (ps_expr (pe_bm PySem.F.plainAttrs_list PySem.F.slot_list_pop PySem.F.type_list_pop mt_popAt (pe_ix ix_list (pv 0) pe_int (fun _ _ => rfl)) (pa_cons pe_int pa_nil)))))))
      (pss_cons (ps_asg (pe_op op_add (pe_ix ix_list (pv 0) pe_int (fun _ _ => rfl)) pe_int) (pg_sub (pv 0) pe_int set_list))
      (pss_cons (ps_set (i := 3) sc__law_next.nd rfl (.inl rfl) (pe_op op_mod (pe_ix ix_list (pe_ix ix_list (pv 0) pe_int (fun _ _ => rfl)) (pe_op op_mod (pe_ix ix_list (pv 0) pe_int (fun _ _ => rfl)) (pe_callB (lenK K) (by rfl) z_len PySem.boot_len (pa_cons (pe_ix ix_list (pv 0) pe_int (fun _ _ => rfl)) pa_nil))) (fun _ _ => rfl)) pe_int))
      (pss_cons (ps_set (i := 4) sc__law_next.nd rfl (.inl rfl) (pe_op op_add (pe_op op_add (pe_op op_mul (pv 3) (pe_op op_add pe_int (pe_op op_mul pe_int (pe_ix ix_list (pv 0) pe_int (fun _ _ => rfl))))) (pe_op op_mul (pe_op op_mul pe_int (pe_ix ix_list (pv 0) pe_int (fun _ _ => rfl))) (pe_ix ix_list (pv 0) pe_int (fun _ _ => rfl)))) pe_int))
      (pss_cons (ps_set (i := 4) sc__law_next.nd rfl (.inl rfl) (pe_op op_mod (pv 4) pe_int))
      (pss_one (ps_ret (pe_op op_mod (pe_op op_fdiv (pe_op op_mod (pe_op op_mul (pv 4) (pv 4)) pe_int) pe_int) (pv 1)))))))), ?_⟩
    obtain ⟨b0, c0, M0, M1, n0, D0⟩ := hR
    refine ⟨fun x σ H2 => ∃ y R2 b c L0 L1 n, σ = [some (.ref a), some (.int k), y, none, none] ∧ Sp3 G R2 F H2 ∧ DkAt a m R2 b c L0 L1 n ∧ x = L0.length, ⟨_, none, R, b0, c0, M0, M1, n0, rfl, sp, D0, rfl⟩, ?_⟩
    rintro x σ H2 ⟨y, R2, b, c, L0, L1, n, rfl, s2, D, rfl⟩
    have nxt : ∀ (i : Int) R3 H3, 0 ≤ i → i < k → Sp3 G R3 F H3 → (DkI a).p (m + 1) R3 → Q (.int i) H3 := fun i R3 H3 i0 i1 s3 d3 => q _ _ G R3 H3 (Evl.Ex.refl _) d3 s3 (.int i) (hP i i0 i1)
    refine ⟨.ref a, rfl, a, _, 0, .ref b, rfl, rfl, .inl (.inl (s2.r _ _ D.top)), atI_nat (j := 0) rfl, Nat.zero_le _, fun p np => ?_⟩
    have hbp : (upd H2 p (.lst [])) b = some (.lst (L0.map V.int)) := by rw [upd_ne (ne_of_none (s2.r _ _ D.big) np)]; exact s2.r _ _ D.big
    have s3 : Sp3 G R2 F (upd H2 p (.lst [])) := s2.junk np
    refine ⟨_, .list ([].map PyData.int), dp_ints hbp, dp_ints (L := []) upd_same, shapedL L0, shapedL [], !decide (L0 = []), ?_, ?_⟩
    · show V.bl (!PyData.eqvAll _ _) = _
      rw [eqv_ints]
    cases L0 with
    | cons z L0 =>
      refine iteT ?_
      refine ⟨fun σ H' => ∃ y R2 b c L1 n, σ = [some (.ref a), some (.int k), y, none, none] ∧ Sp3 G R2 F H' ∧ DkAt a m R2 b c L0 L1 n, fun σ' H' hN => ?_, ?_⟩
      · obtain ⟨y2, R3, b3, c3, L3, n3, e, t1, t2⟩ := hN
        exact ⟨L0.length, Nat.lt_succ_self _, y2, R3, b3, c3, L0, L3, n3, e, t1, t2, rfl⟩
      refine ⟨.ref a, rfl, a, _, 0, .ref b, rfl, rfl, .inl (.inl (s3.r _ _ D.top)), atI_nat (j := 0) rfl, b, _, 0, .int z, rfl, rfl, .inl (.inl hbp), atI_nat (j := 0) rfl, ?_⟩
      refine ⟨.int z, rfl, z, 0, rfl, rfl, _, rfl, ite2 (fun hz => ?_) (fun hz => ?_)⟩
      · refine ⟨.int z, rfl, .int k, rfl, z, k, rfl, rfl, cdiv_big k1 k2, .ref a, rfl, a, _, 0, .ref b, rfl, rfl, .inl (.inl (s3.r _ _ D.top)), atI_nat (j := 0) rfl, b, _, 0, 0, rfl, rfl, hbp, ixN_0 _ _, ?_⟩
        refine ⟨.int z, rfl, .int k, rfl, z, k, rfl, rfl, by omega, ?_⟩
        refine nxt _ (upd R2 b (.lst ((z :: L0).map V.int |>.set 0 (.int (z / k))))) _ (Int.emod_nonneg _ (by omega)) (Int.emod_lt_of_pos _ (by omega)) (s3.setR D.big) ⟨b, c, (z / k) :: L0, L1, n, ?_⟩
        exact ⟨by rw [upd_ne D.ab]; exact D.top, by rw [upd_same]; rfl, by rw [upd_ne D.bc.symm]; exact D.all, D.bc, D.ne, D.l0, D.l1, D.pos, Nat.le_trans D.le (Nat.le_succ _)⟩
      · refine ⟨.ref a, rfl, a, _, 0, .ref b, rfl, rfl, .inl (.inl (s3.r _ _ D.top)), atI_nat (j := 0) rfl, .inl ⟨rfl, _, .inl (.inl hbp)⟩, b, _, 0, 0, .int z, rfl, rfl, hbp, by decide, by decide, seqIx_0 _ _, rfl, ?_⟩
        refine ⟨some (.int z), upd R2 b (.lst (L0.map V.int)), b, c, L1, n, rfl, s3.setR D.big, ?_⟩
        exact ⟨by rw [upd_ne D.ab]; exact D.top, upd_same, by rw [upd_ne D.bc.symm]; exact D.all, D.bc, D.ne, Nat.le_trans (Nat.le_succ _) D.l0, D.l1, D.pos, D.le⟩
    | nil =>
      refine iteF ?_
      -- deck[2] = deck[2] + 1
      have ha3 := s3.r _ _ D.top
      refine ⟨.ref a, rfl, a, _, 2, .int (n : Nat), rfl, rfl, .inl (.inl ha3), atI_nat (j := 2) rfl, (n : Int), 1, rfl, rfl, .ref a, rfl, a, _, 2, 2, rfl, rfl, ha3, rfl, ?_⟩
      have e4 : ([V.ref b, .ref c, .int (n : Nat)].set 2 (.int ((n : Int) + 1))) = [.ref b, .ref c, .int ((n + 1 : Nat) : Int)] := rfl
      have s4 : Sp3 G (upd R2 a (.lst [.ref b, .ref c, .int ((n + 1 : Nat) : Int)])) F (upd (upd H2 p (.lst [])) a (.lst [.ref b, .ref c, .int ((n + 1 : Nat) : Int)])) := s3.setR D.top
      show _
      generalize hH4 : upd (upd H2 p (.lst [])) a (.lst [V.ref b, .ref c, .int ((n + 1 : Nat) : Int)]) = H4 at s4
      have hH5 : upd (upd H2 p (.lst [])) a (.lst ([V.ref b, .ref c, .int (n : Nat)].set 2 (.int ((n : Int) + 1)))) = H4 := hH4
      rw [hH5]
      have ha4 : H4 a = some (.lst [.ref b, .ref c, .int ((n + 1 : Nat) : Int)]) := s4.r _ _ upd_same
      have hc4 : H4 c = some (.lst (L1.map V.int)) := s4.r _ _ (by rw [upd_ne D.ac.symm]; exact D.all)
      have mb' : m + 1 ≤ 1000000000000 := mb
      have hn : n ≤ 1000000000000 := Nat.le_trans D.le (by omega)
      have hlen : 0 < L1.length := List.length_pos_iff.mpr D.ne
      have hix : (((n + 1 : Nat) : Int) % ((L1.map V.int).length : Int)) = (((n + 1) % L1.length : Nat) : Int) := by rw [List.length_map]; rfl
      have hlt : (n + 1) % L1.length < L1.length := Nat.mod_lt _ hlen
      have hget : (L1.map V.int)[(n + 1) % L1.length]? = some (.int (L1[(n + 1) % L1.length]'hlt)) := by rw [List.getElem?_map, List.getElem?_eq_getElem hlt]; rfl
      generalize hcell : L1[(n + 1) % L1.length]'hlt = cell at hget
      refine ⟨.ref a, rfl, a, _, 1, .ref c, rfl, rfl, .inl (.inl ha4), atI_nat (j := 1) rfl, .ref a, rfl, a, _, 2, _, rfl, rfl, .inl (.inl ha4), atI_nat (j := 2) rfl, .ref a, rfl, a, _, 1, .ref c, rfl, rfl, .inl (.inl ha4), atI_nat (j := 1) rfl, c, _, rfl, .inl (.inl (.inl hc4)), _, _, rfl, rfl, by rw [List.length_map]; omega, c, _, _, .int cell, rfl, rfl, .inl (.inl hc4), by rw [hix]; exact atI_nat hget, cell, 2147483647, rfl, rfl, (by show (0 : Int) < 2147483647; decide), ?_⟩
      dsimp only
      have u1 := Int.emod_nonneg cell (show (2147483647 : Int) ≠ 0 by decide)
      have u2 := Int.emod_lt_of_pos cell (show (0 : Int) < 2147483647 by decide)
      generalize cell % 2147483647 = x3 at u1 u2
      refine ⟨.int x3, rfl, .ref a, rfl, a, _, 2, _, rfl, rfl, .inl (.inl ha4), atI_nat (j := 2) rfl, 39373, _, rfl, rfl, .inl ⟨by decide, by decide⟩, 16807, _, rfl, rfl, x3, _, rfl, rfl, .inl ⟨by omega, by omega⟩, .ref a, rfl, a, _, 2, _, rfl, rfl, .inl (.inl ha4), atI_nat (j := 2) rfl, 40692, _, rfl, rfl, .inl ⟨by decide, by decide⟩, .ref a, rfl, a, _, 2, _, rfl, rfl, .inl (.inl ha4), atI_nat (j := 2) rfl, _, _, rfl, rfl, .inl ⟨by omega, by omega⟩, _, _, rfl, rfl, _, 103, rfl, rfl, ?_⟩
      dsimp only
      generalize x3 * (16807 + 39373 * ((n + 1 : Nat) : Int)) + 40692 * ((n + 1 : Nat) : Int) * ((n + 1 : Nat) : Int) + 103 = x4
      refine ⟨.int x4, rfl, x4, 2147483629, rfl, rfl, (by show (0 : Int) < 2147483629; decide), ?_⟩
      dsimp only
      have u3 := Int.emod_nonneg x4 (show (2147483629 : Int) ≠ 0 by decide)
      have u4 := Int.emod_lt_of_pos x4 (show (0 : Int) < 2147483629 by decide)
      generalize x4 % 2147483629 = x5 at u3 u4
      refine ⟨.int x5, rfl, .int x5, rfl, x5, x5, rfl, rfl, .inl ⟨by omega, by omega⟩, _, 2147483587, rfl, rfl, (by show (0 : Int) < 2147483587; decide), _, 16, rfl, rfl, ⟨by decide, by decide⟩, .int k, rfl, _, k, rfl, rfl, by omega, ?_⟩
      refine nxt _ _ _ (Int.emod_nonneg _ (by omega)) (Int.emod_lt_of_pos _ (by omega)) s4 ⟨b, c, [], L1, n + 1, ?_⟩
      exact ⟨upd_same, by rw [upd_ne D.ab.symm]; exact D.big, by rw [upd_ne D.ac.symm]; exact D.all, D.bc, D.ne, D.l0, D.l1, D.pos, Nat.succ_le_succ D.le⟩
theorem ok__law_deck {a0 : Addr} {fd0 : FuncData} (F0 : Fun K "_law_deck" "_law_deck" s__law_deck a0 fd0) (z_abs : mg "abs" = none) (z_len : mg "len" = none) : FnOk P w K mg base CX0 1 a0 fd0 ["_law_script"] (sp__law_deck K) := by
  refine fn_mk F0 sc__law_deck (fun ds c p h => ?_) (fun cdv A outer s H E hr => ⟨_, (pss_cons (by exact ps_setLc (i := 1) (own := [("_law_cell", 2)]) (g := gName 2) (by rfl) sc__law_deck.nd rfl rfl (sw_true rfl rfl rfl (by decide +kernel)) (by exact piL K (pv 0)) (blkOk_by (own := [("_law_cell", 2)]) (N := ["_law_script", "_law_cells", "_law_cell"]) (sc := defScope s__law_deck) (by decide +kernel)) (fun _ _ _ _ _ => (by exact pg_name (i := 2) sc__law_deck.nd rfl (.inl rfl))) (fun _ _ _ _ _ => pts_nil) (fun _ _ _ _ _ => (by exact pe_callB call_absQ (by rfl) z_abs boot_abs (by exact pa_cons (pv 2) pa_nil)))) (by exact pss_one (by exact ps_ret (by exact pe_lst (by exact pa_cons (by exact pe_lc (own := [("_law_cell", 2)]) (g := gName 2) (by rfl) sc__law_deck.nd (by exact piL K (pv 1)) (blkOk_by (own := [("_law_cell", 2)]) (N := ["_law_script", "_law_cells", "_law_cell"]) (sc := defScope s__law_deck) (by decide +kernel)) (fun _ _ _ _ _ => (by exact pg_name (i := 2) sc__law_deck.nd rfl (.inl rfl))) (fun _ _ _ _ _ => (by exact pts_one (by exact pt_cmpR op_ge (pv 2) (by exact pe_op op_pow pe_int pe_int) (nomark _)))) (fun _ _ _ _ _ => (pv 2))) (by exact pa_cons (by exact pe_op op_cat (pv 1) (by exact pe_lst (by exact pa_cons (by exact pe_op op_add (by exact pe_callB (lenK K) (by rfl) z_len PySem.boot_len (by exact pa_cons (pv 1) pa_nil)) pe_int) pa_nil))) (by exact pa_cons pe_int pa_nil))))))), fun ds I c R hI hS => ?_⟩)
  · obtain ⟨ns, rfl, _⟩ := h
    rfl
  · obtain ⟨ns, rfl, hn, hp⟩ := hS
    refine Sv.le (v_set (P := (· = .lst (iL (absL ns)))) ((e_map (ce := 0) (n := 63) (js := [2]) (fun d Δ => Δ.set 2 (some d)) (fun d => match d with | .int i => .int (i.natAbs : Int) | _ => .non) (i_scr (ev_var rfl)) (by rw [List.length_map]; exact hn) (by decide) (fun j h => h) fun d hd => ?_).to ?_) fun d hd => ?_) (by omega) (c := (0 + 63 * (0 + 0)) + (0 + 63 * (0 + 0) + (0 + (0 + 0) + (0 + 0))))
    · obtain ⟨i, _, rfl⟩ := List.mem_map.mp hd
      exact ⟨gd_name, e_cb (a_cons (ev_var rfl) a_nil) cd_abs⟩
    · show Dt.lst _ = Dt.lst (List.map Dt.int (List.map _ ns))
      rw [List.map_map, List.map_map]
      rfl
    · subst hd
      have hl : (absL ns).length = ns.length := List.length_map _
      refine sv_ret ((e_lst (a_cons ((e_lc (ct := 0) (ce := 0) (n := 63) (js := [2]) (i_list (ev_var rfl)) (by rw [List.length_map, hl]; exact hn) (by decide) (fun j h => h) (fun d Δ => Δ.set 2 (some d)) (fun d => match d with | .int i => if 1000000000000000000 ≤ i then some (.int i) else none | _ => none) fun d hd => ?_).to (y := .lst (iL (bigL ns))) ?_) (a_cons (e_op (ev_var rfl) (e_lst (a_cons (e_op (e_cb (a_cons (ev_var rfl) a_nil) (cd_len rfl)) ev_int opd_add) a_nil) (by show 1 ≤ sizeLine; decide)) (opd_cat ?_)) (a_cons ev_int a_nil))) (by show 3 ≤ sizeLine; decide)).imp fun _ e => ?_)
      · obtain ⟨i, _, rfl⟩ := List.mem_map.mp hd
        refine ⟨gd_name, _, t_test (e_op (ev_var rfl) (e_op ev_int ev_int (opd_pow ⟨by decide, by decide, by decide⟩)) opd_ge), fun e => ?_, fun e => (ev_var (d := .int i) rfl).imp fun _ z => ?_⟩
        · show (if 1000000000000000000 ≤ i then some (Dt.int i) else none) = none
          exact if_neg (of_decide_eq_false e)
        · show (if 1000000000000000000 ≤ i then some (Dt.int i) else none) = _
          rw [if_pos (show (1000000000000000000 : Int) ≤ i from of_decide_eq_true e), z]
      · show Dt.lst _ = Dt.lst (List.map Dt.int (List.filter _ (absL ns)))
        congr 1
        rw [List.filterMap_map]
        have key : ∀ l : List Int, (l.filterMap fun i => if 1000000000000000000 ≤ i then some (Dt.int i) else none) = List.map Dt.int (l.filter fun x => decide (1000000000000000000 ≤ x)) := fun l => by
          induction l with
          | nil => rfl
          | cons x l ih =>
            rw [List.filterMap_cons, List.filter_cons, ih]
            by_cases hx : (1000000000000000000 : Int) ≤ x
            · simp [hx]
            · simp [hx]
        exact key _
      · rw [List.length_map, hl]
        exact Nat.le_trans (Nat.succ_le_succ hn) (by decide)
      · rw [e]
        have z : Dt.lst [.lst (iL (bigL ns)), .lst (iL (absL ns) ++ [.int (((iL (absL ns)).length : Int) + 3)]), .int 0] = deckD ns := by
          unfold deckD
          rw [List.length_map, hl, show iL (absL ns ++ [(ns.length : Int) + 3]) = iL (absL ns) ++ [.int ((ns.length : Int) + 3)] from List.map_append]
        rw [z]
        exact hp
theorem ok__law_one {a0 : Addr} {fd0 : FuncData} (F0 : Fun K "_law_one" "_law_one" s__law_one a0 fd0) (C__law_next : Cal P w K mg base 1 "_law_next" ["_law_deck_here", "_law_many"] (sp__law_next K)) (z_len : mg "len" = none) : FnOk P w K mg base CX0 2 a0 fd0 ["_law_deck_here", "_law_some"] (sp__law_one K) := by
  refine fn_mk F0 sc__law_one (fun ds c p h => ?_) (fun cdv A outer s H E hr => ⟨_, (pss_one (by exact ps_ret (by exact pe_ix (ixs K) (pv 1) (by exact pe_cal C__law_next (hr.mono (by first | decide | omega)) (by rfl) (by exact pa_cons (pv 0) (by exact pa_cons (by exact pe_callB (lenK K) (by rfl) z_len PySem.boot_len (by exact pa_cons (pv 1) pa_nil)) pa_nil))) (fun _ _ => rfl)))), fun ds I c R hI hS => ?_⟩)
  · obtain ⟨a, xs, rfl, _⟩ := h
    rfl
  · obtain ⟨a, xs, rfl, hne, hl, rfl, hp⟩ := hS
    obtain ⟨a', r', e1, rfl⟩ := hI
    cases e1
    have h0 : 0 < xs.length := List.length_pos_iff.mpr hne
    refine Sv.le (sv_ret (ev_op (P2 := fun d => ∃ i : Int, d = .int i ∧ 0 ≤ i ∧ i < xs.length) (ev_var (d := .lst xs) rfl) (e_call (c2 := 1) (a_cons (ev_var rfl) (a_cons (e_cb (a_cons (ev_var rfl) a_nil) (cd_len rfl)) a_nil)) ⟨a, _, rfl, rfl⟩ ⟨a, _, rfl, by omega, by omega, rfl, fun i i0 i1 => ⟨i, rfl, i0, i1⟩⟩) fun x y e1 e2 => ?_)) (by omega)
    obtain ⟨i, rfl, i0, i1⟩ := e2
    subst e1
    exact opd_pick i0 i1 hp
theorem ok__law_great {a0 : Addr} {fd0 : FuncData} (F0 : Fun K "_law_great" "_law_great" s__law_great a0 fd0) (C__law_next : Cal P w K mg base 1 "_law_next" ["_law_deck_here", "_law_many"] (sp__law_next K)) : FnOk P w K mg base CX0 2 a0 fd0 ["_law_deck_here"] (sp__law_great K) := by
  refine fn_mk F0 sc__law_great (fun ds c p h => ?_) (fun cdv A outer s H E hr => ⟨_, (pss_one (by exact ps_ret (by exact pe_ix (ixs K) (by exact pe_lst (by exact pa_cons pe_int (by exact pa_cons pe_int (by exact pa_cons pe_int (by exact pa_cons (by exact pe_op op_pow pe_int pe_int) pa_nil))))) (by exact pe_cal C__law_next (hr.mono (by first | decide | omega)) (by rfl) (by exact pa_cons (pv 0) (by exact pa_cons pe_int pa_nil))) (fun _ _ => rfl)))), fun ds I c R hI hS => ?_⟩)
  · obtain ⟨a, rfl, _⟩ := h
    rfl
  · obtain ⟨a, rfl, rfl, hp⟩ := hS
    obtain ⟨a', r', e1, rfl⟩ := hI
    cases e1
    refine Sv.le (sv_ret (ev_op (P2 := fun d => ∃ i : Int, d = .int i ∧ 0 ≤ i ∧ i < 4) (e_lst (a_cons ev_int (a_cons ev_int (a_cons ev_int (a_cons (e_op ev_int ev_int (opd_pow ⟨by decide, by decide, by decide⟩)) a_nil)))) (by decide)) (e_call (c2 := 1) (a_cons (ev_var rfl) (a_cons ev_int a_nil)) ⟨a, _, rfl, rfl⟩ ⟨a, _, rfl, by omega, by omega, rfl, fun i i0 i1 => ⟨i, rfl, i0, i1⟩⟩) fun x y e1 e2 => ?_)) (by omega)
    obtain ⟨i, rfl, i0, i1⟩ := e2
    subst e1
    refine opd_pick i0 i1 fun d hd => ?_
    rcases List.mem_cons.mp hd with z | hd
    · rw [z]
      exact hp 2 (by decide) (by decide)
    rcases List.mem_cons.mp hd with z | hd
    · rw [z]
      exact hp 4 (by decide) (by decide)
    rcases List.mem_cons.mp hd with z | hd
    · rw [z]
      exact hp 9 (by decide) (by decide)
    rcases List.mem_cons.mp hd with z | hd
    · rw [z]
      exact hp _ (by decide) (by decide)
    · cases hd
theorem ok__law_level {a0 : Addr} {fd0 : FuncData} (F0 : Fun K "_law_level" "_law_level" s__law_level a0 fd0) (C__law_next : Cal P w K mg base 1 "_law_next" ["_law_deck_here", "_law_many"] (sp__law_next K)) : FnOk P w K mg base CX0 2 a0 fd0 ["_law_deck_here", "_law_great_here"] (sp__law_level K) := by
  refine fn_mk F0 sc__law_level (fun ds c p h => ?_) (fun cdv A outer s H E hr => ⟨_, (pss_one (by exact ps_ret (by exact pe_ix (ixs K) (by exact pe_lst (by exact pa_cons pe_int (by exact pa_cons (pv 1) (by exact pa_cons (by exact pe_cal C__law_next (hr.mono (by first | decide | omega)) (by rfl) (by exact pa_cons (pv 0) (by exact pa_cons (by exact pe_op op_add (pv 1) pe_int) pa_nil))) (by exact pa_cons (by exact pe_cal C__law_next (hr.mono (by first | decide | omega)) (by rfl) (by exact pa_cons (pv 0) (by exact pa_cons (by exact pe_op op_add (pv 1) pe_int) pa_nil))) pa_nil))))) (by exact pe_cal C__law_next (hr.mono (by first | decide | omega)) (by rfl) (by exact pa_cons (pv 0) (by exact pa_cons pe_int pa_nil))) (fun _ _ => rfl)))), fun ds I c R hI hS => ?_⟩)
  · obtain ⟨a, g, rfl, _⟩ := h
    rfl
  · obtain ⟨a, g, rfl, g1, g2, rfl, hp⟩ := hS
    obtain ⟨a', r', e1, rfl⟩ := hI
    cases e1
    have hg : g + 1 ≤ 10000000000000 := by
      have : g ≤ 1000000000000 := g2
      omega
    refine Sv.le (sv_ret (ev_op (P1 := fun x => ∃ xs : List Dt, x = .lst xs ∧ xs.length = 4 ∧ ∀ d ∈ xs, R d) (P2 := fun d => ∃ i : Int, d = .int i ∧ 0 ≤ i ∧ i < 4) (ev_lst (p_cons (ev_int.imp fun _ e => ?_) (p_cons ((ev_var (d := .int g) rfl).imp fun _ e => ?_) (p_cons (e_call (c2 := 1) (a_cons (ev_var rfl) (a_cons (e_op (ev_var rfl) ev_int opd_add) a_nil)) ⟨a, _, rfl, rfl⟩ ⟨a, _, rfl, by omega, hg, rfl, fun i i0 i1 => hp i i0 ?_⟩) (p_cons (e_call (c2 := 1) (a_cons (ev_var rfl) (a_cons (e_op (ev_var rfl) ev_int opd_add) a_nil)) ⟨a, _, rfl, rfl⟩ ⟨a, _, rfl, by omega, hg, rfl, fun i i0 i1 => hp i i0 ?_⟩) p_nil)))) fun ds h => ⟨by rw [h.1]; decide, _, rfl, h.1, h.2⟩) (e_call (c2 := 1) (a_cons (ev_var rfl) (a_cons ev_int a_nil)) ⟨a, _, rfl, rfl⟩ ⟨a, _, rfl, by omega, by omega, rfl, fun i i0 i1 => ⟨i, rfl, i0, i1⟩⟩) fun x y e1 e2 => ?_)) (by omega)
    · rw [e]
      exact hp 0 (by decide) (by decide)
    · rw [e]
      exact hp g (by omega) g2
    · exact Int.le_trans (by omega : i ≤ g) g2
    · exact Int.le_trans (by omega : i ≤ g) g2
    · obtain ⟨xs, rfl, hl, hx⟩ := e1
      obtain ⟨i, rfl, i0, i1⟩ := e2
      exact opd_pick i0 (by rw [hl]; exact i1) hx
theorem ok__law_row {a0 : Addr} {fd0 : FuncData} (F0 : Fun K "_law_row" "_law_row" s__law_row a0 fd0) (C__law_level : Cal P w K mg base 2 "_law_level" ["_law_deck_here", "_law_great_here"] (sp__law_level K)) (z_tuple : mg "tuple" = none) (z_range : mg "range" = none) : FnOk P w K mg base CX0 3 a0 fd0 ["_law_deck_here", "_law_great_here", "_law_count"] (sp__law_row K) := by
  refine fn_mk F0 sc__law_row (fun ds c p h => ?_) (fun cdv A outer s H E hr => ⟨_, (pss_one (by exact ps_ret (by exact pe_callTy (tupleK K) (by rfl) z_tuple boot_tuple (by exact pa_cons (by exact pe_lc (own := [("_law_k", 3)]) (g := gName 3) (by rfl) sc__law_row.nd (by exact pi_range1 (by rfl) z_range (by exact pa_cons (pv 2) pa_nil)) (blkOk_by (own := [("_law_k", 3)]) (N := ["_law_deck_here", "_law_great_here", "_law_count", "_law_k"]) (sc := defScope s__law_row) (by decide +kernel)) (fun _ _ _ _ _ => (by exact pg_name (i := 3) sc__law_row.nd rfl (.inl rfl))) (fun _ _ _ _ _ => pts_nil) (fun _ _ _ _ _ => (by exact pe_cal C__law_level (hr.mono (by first | decide | omega)) (by rfl) (by exact pa_cons (pv 0) (by exact pa_cons (pv 1) pa_nil))))) pa_nil)))), fun ds I c R hI hS => ?_⟩)
  · obtain ⟨a, g, n, rfl, _⟩ := h
    rfl
  · obtain ⟨a, g, n, rfl, g1, g2, n6, rfl, hp⟩ := hS
    obtain ⟨a', r', e1, rfl⟩ := hI
    cases e1
    refine Sv.le (sv_ret (ev_cb (Ps := fun ds => ∃ xs : List Dt, ds = [.lst xs] ∧ xs.length = n ∧ ∀ x ∈ xs, ∃ i : Int, x = .int i ∧ 0 ≤ i ∧ i ≤ TOPI) (fun m σ G F R H mb e i s Q q => ea_cons (e_draw (ce := 3) (n := 6) (js := [3]) (fun d Δ => Δ.set 3 (some d)) (fun x => ∃ i : Int, x = .int i ∧ 0 ≤ i ∧ i ≤ TOPI) (i_rng (a_cons (ev_var rfl) a_nil) (by omega) (by omega)) (by rw [rngD_len]; omega) (by decide) (fun j h => h) fun d hd => ⟨gd_name, e_call (c2 := 3) (a_cons (ev_var rfl) (a_cons (ev_var rfl) a_nil)) ⟨a, _, rfl, rfl⟩ ⟨a, g, rfl, g1, g2, rfl, fun i i0 i1 => ⟨i, rfl, i0, i1⟩⟩⟩) ea_nil m σ G F R H mb e i s Q fun vs ds G' R' H' e' i' s' d' p' => q vs ds G' R' H' e' i' s' d' ?_) fun ds h => ?_)) (by omega)
    · obtain ⟨_, _, rfl, ⟨xs, rfl, hl, hx⟩, rfl⟩ := p'
      exact ⟨xs, rfl, by rw [hl, rngD_len]; omega, hx⟩
    · obtain ⟨xs, rfl, hl, hx⟩ := h
      refine (cd_tuple rfl).imp fun d e => ?_
      obtain ⟨v, ev, hv⟩ := lev_list hl hx
      rw [e, ev]
      exact hp v hv
theorem ok__law_table {a0 : Addr} {fd0 : FuncData} (F0 : Fun K "_law_table" "_law_table" s__law_table a0 fd0) (C__law_next : Cal P w K mg base 1 "_law_next" ["_law_deck_here", "_law_many"] (sp__law_next K)) (C__law_row : Cal P w K mg base 3 "_law_row" ["_law_deck_here", "_law_great_here", "_law_count"] (sp__law_row K)) (z_tuple : mg "tuple" = none) (z_range : mg "range" = none) : FnOk P w K mg base CX0 4 a0 fd0 ["_law_deck_here", "_law_great_here", "_law_outlets", "_law_inlets"] (sp__law_table K) := by
  refine fn_mk F0 sc__law_table (fun ds c p h => ?_) (fun cdv A outer s H E hr => ⟨_, (pss_cons (by exact ps_asg (by exact pe_tup (by exact pa_cons (by exact pe_op op_add pe_int (by exact pe_cal C__law_next (hr.mono (by first | decide | omega)) (by rfl) (by exact pa_cons (pv 0) (by exact pa_cons (pv 2) pa_nil)))) (by exact pa_cons (by exact pe_op op_add pe_int (by exact pe_cal C__law_next (hr.mono (by first | decide | omega)) (by rfl) (by exact pa_cons (pv 0) (by exact pa_cons (pv 3) pa_nil)))) pa_nil))) (by exact pg_tup (by rfl) (by exact pgs_cons (by exact pg_name (i := 2) sc__law_table.nd rfl (.inl rfl)) (by exact pgs_cons (by exact pg_name (i := 3) sc__law_table.nd rfl (.inr rfl)) pgs_nil)))) (by exact pss_one (by exact ps_ret (by exact pe_callTy (tupleK K) (by rfl) z_tuple boot_tuple (by exact pa_cons (by exact pe_lc (own := [("_law_k", 4)]) (g := gName 4) (by rfl) sc__law_table.nd (by exact pi_range1 (by rfl) z_range (by exact pa_cons (pv 2) pa_nil)) (blkOk_by (own := [("_law_k", 4)]) (N := ["_law_deck_here", "_law_great_here", "_law_outlets", "_law_inlets", "_law_k"]) (sc := defScope s__law_table) (by decide +kernel)) (fun _ _ _ _ _ => (by exact pg_name (i := 4) sc__law_table.nd rfl (.inl rfl))) (fun _ _ _ _ _ => pts_nil) (fun _ _ _ _ _ => (by exact pe_cal C__law_row (hr.mono (by first | decide | omega)) (by rfl) (by exact pa_cons (pv 0) (by exact pa_cons (pv 1) (by exact pa_cons (pv 3) pa_nil)))))) pa_nil))))), fun ds I c R hI hS => ?_⟩)
  · obtain ⟨a, g, o, i, rfl, _⟩ := h
    rfl
  · obtain ⟨a, g, o, i, rfl, g1, g2, o1, o6, i1, i6, rfl, hp⟩ := hS
    obtain ⟨a', r', e1, rfl⟩ := hI
    cases e1
    refine Sv.le (sv_seq (sv_asgP (P := fun d => ∃ o2 i2 : Nat, d = .tup [.int (o2 : Nat), .int (i2 : Nat)] ∧ 1 ≤ o2 ∧ o2 ≤ 6 ∧ 1 ≤ i2 ∧ i2 ≤ 6) (N := fun Δ => ∃ o2 i2 : Nat, Δ = [some (.ptr a), some (.int g), some (.int (o2 : Nat)), some (.int (i2 : Nat)), none] ∧ 1 ≤ o2 ∧ o2 ≤ 6 ∧ 1 ≤ i2 ∧ i2 ≤ 6) (ev_tup (ea_cons (P1 := fun d => ∃ k : Nat, d = .int (k : Nat) ∧ 1 ≤ k ∧ k ≤ 6) (ev_op (P2 := fun d => ∃ j : Int, d = .int j ∧ 0 ≤ j ∧ j < o) ev_int (e_call (c2 := 1) (a_cons (ev_var rfl) (a_cons (ev_var rfl) a_nil)) ⟨a, _, rfl, rfl⟩ ⟨a, _, rfl, o1, by omega, rfl, fun j j0 j1 => ⟨j, rfl, j0, j1⟩⟩) fun x y e1 e2 => ?_) (ea_cons (P1 := fun d => ∃ k : Nat, d = .int (k : Nat) ∧ 1 ≤ k ∧ k ≤ 6) (ev_op (P2 := fun d => ∃ j : Int, d = .int j ∧ 0 ≤ j ∧ j < i) ev_int (e_call (c2 := 1) (a_cons (ev_var rfl) (a_cons (ev_var rfl) a_nil)) ⟨a, _, rfl, rfl⟩ ⟨a, _, rfl, i1, by omega, rfl, fun j j0 j1 => ⟨j, rfl, j0, j1⟩⟩) fun x y e1 e2 => ?_) ea_nil)) fun ds h => ?_) fun d h => ?_) fun Δ' h => ?_) (c := (0 + (0 + (0 + 0) + 1) + (0 + (0 + (0 + 0) + 1) + 0)) + (0 + 0 + 6 * (0 + 18) + 0)) (by omega)
    · obtain ⟨j, rfl, j0, j1⟩ := e2
      subst e1
      exact opd_add.imp fun d e => ⟨(1 + j).toNat, by rw [e, Int.toNat_of_nonneg (by omega)], by omega, by omega⟩
    · obtain ⟨j, rfl, j0, j1⟩ := e2
      subst e1
      exact opd_add.imp fun d e => ⟨(1 + j).toNat, by rw [e, Int.toNat_of_nonneg (by omega)], by omega, by omega⟩
    · obtain ⟨_, _, rfl, ⟨o2, rfl, p1, p2⟩, _, _, rfl, ⟨i2, rfl, p3, p4⟩, rfl⟩ := h
      exact ⟨by show 2 ≤ sizeLine; decide, o2, i2, rfl, p1, p2, p3, p4⟩
    · obtain ⟨o2, i2, rfl, p1, p2, p3, p4⟩ := h
      exact ⟨_, _, rfl, o2, i2, rfl, p1, p2, p3, p4⟩
    · obtain ⟨o2, i2, rfl, p1, p2, p3, p4⟩ := h
      refine sv_ret (ev_cb (Ps := fun ds => ∃ xs : List Dt, ds = [.lst xs] ∧ xs.length = o2 ∧ ∀ x ∈ xs, ∃ v, x = vec v ∧ isV i2 v) (fun m σ G F R H mb e i s Q q => ea_cons (e_draw (ce := 18) (n := 6) (js := [4]) (fun d Δ => Δ.set 4 (some d)) (fun x => ∃ v, x = vec v ∧ isV i2 v) (i_rng (a_cons (ev_var rfl) a_nil) (by omega) (by omega)) (by rw [rngD_len]; omega) (by decide) (fun j h => h) fun d hd => ⟨gd_name, e_call (c2 := 18) (a_cons (ev_var rfl) (a_cons (ev_var rfl) (a_cons (ev_var rfl) a_nil))) ⟨a, _, rfl, rfl⟩ ⟨a, g, i2, rfl, g1, g2, p4, rfl, fun v hv => ⟨v, rfl, hv⟩⟩⟩) ea_nil m σ G F R H mb e i s Q fun vs ds G' R' H' e' i' s' d' p' => q vs ds G' R' H' e' i' s' d' ?_) fun ds h => ?_)
      · obtain ⟨_, _, rfl, ⟨xs, rfl, hl, hx⟩, rfl⟩ := p'
        exact ⟨xs, rfl, by rw [hl, rngD_len]; omega, hx⟩
      · obtain ⟨xs, rfl, hl, hx⟩ := h
        refine (cd_tuple rfl).imp fun d e => ?_
        rw [e]
        obtain ⟨t, rfl, ht⟩ := row_list hx
        refine hp i2 t ⟨fun z => ?_, ?_, p3, p4, fun r hr => (ht r hr).len, fun r hr => (ht r hr).lev⟩
        · rw [z] at hl
          simp at hl
          omega
        · rw [List.length_map] at hl
          omega
end
end KK
set_option Elab.async false
set_option linter.all false
set_option maxRecDepth 100000
set_option maxHeartbeats 1000000
namespace KK
open PySem PySem.Spec PyProof.Rows L2 Fw
open Evl (Ex)
def sp__law_whole (K : PySem.W.Frag) : Sp := mk K anyI fun ds _ p => ∃ d, ds = [d] ∧ valD d = true ∧ p (.bl (isIntD d))
def sp__law_odd (K : PySem.W.Frag) : Sp := mk K deckI fun ds c p => ∃ a, ds = [.ptr a] ∧ c = 1 ∧ ∀ d, Sz 6 2 d → p d
def sp__law_are_levels (K : PySem.W.Frag) : Sp := mk K anyI fun ds _ p => ∃ d n, ds = [d, .int n] ∧ valD d = true ∧ n ≤ 1000 ∧ p (.bl (areLevD d n))
def sp__law_is_table (K : PySem.W.Frag) : Sp := mk K anyI fun ds _ p => ∃ d, ds = [d] ∧ valD d = true ∧ p (.bl (isTblD d))
def rsp__law_same (k : Nat) (K : PySem.W.Frag) : Sp := mk K anyI fun ds _ p => ∃ d, ds = [d, d] ∧ flatD d = true ∧ dpD d < k ∧ szD d ≤ 1000 ∧ p (.bl true)
def rsp__law_bent (k : Nat) (K : PySem.W.Frag) : Sp := mk K deckI fun ds c p => ∃ (a : Addr) (d : Dt) (e : Nat), ds = [.ptr a, d, .int (e : Nat)] ∧ e < k ∧ bnD d = true ∧ szD d ≤ 10000 ∧ dpD d ≤ 20 ∧ c = 7 * k ∧ ∀ d2, Sz (2 * szD d + 120) (dpD d + 2) d2 → p d2
def sp__law_same (K : PySem.W.Frag) : Sp := rsp__law_same 2 K
def sp__law_bent (K : PySem.W.Frag) : Sp := rsp__law_bent 4 K
section
variable {P : Program} {w : World} {K : PySem.W.Frag} {mg : Str → Option Value} {base : Heap}
theorem ok__law_whole {a0 : Addr} {fd0 : FuncData} (F0 : Fun K "_law_whole" "_law_whole" s__law_whole a0 fd0) (z_isinstance : mg "isinstance" = none) (z_int : mg "int" = none) (z_bool : mg "bool" = none) : FnOk P w K mg base CX0 1 a0 fd0 ["_law_thing"] (sp__law_whole K) := by
  refine fn_mk F0 sc__law_whole (fun ds c p h => ?_) (fun cdv A outer s H E hr => ⟨_, (pss_one (by exact ps_ret (by exact pe_and (by exact pe_callB (isiK K) (by rfl) z_isinstance boot_isinstance (by exact pa_cons (pv 0) (by exact pa_cons (by exact pe_bltn (v := .ty "int") (by rfl) z_int boot_int rfl) pa_nil))) (by exact pe_one (by exact pe_not (by exact pe_callB (isiK K) (by rfl) z_isinstance boot_isinstance (by exact pa_cons (pv 0) (by exact pa_cons (by exact pe_bltn (v := .ty "bool") (by rfl) z_bool boot_bool rfl) pa_nil)))))))), fun ds I c R hI hS => ?_⟩)
  · obtain ⟨d, rfl, _⟩ := h
    rfl
  · obtain ⟨d, rfl, hv, hp⟩ := hS
    have hpl := valD.plain hv
    refine Sv.le (sv_ret ((e_and (e_cb (a_cons (ev_var rfl) (a_cons ev_cls a_nil)) (cd_isi hpl (kit_int hpl))) fun _ => e_not (e_cb (a_cons (ev_var rfl) (a_cons ev_cls a_nil)) (cd_isi hpl (kit_bool hpl)))).imp fun _ e => ?_)) (by omega)
    rw [e]
    cases d <;> first | exact hp | (cases hpl; done)
theorem ok__law_odd {a0 : Addr} {fd0 : FuncData} (F0 : Fun K "_law_odd" "_law_odd" s__law_odd a0 fd0) (C__law_next : Cal P w K mg base 1 "_law_next" ["_law_deck_here", "_law_many"] (sp__law_next K)) : FnOk P w K mg base CX0 2 a0 fd0 ["_law_deck_here"] (sp__law_odd K) := by
  refine fn_mk F0 sc__law_odd (fun ds c p h => ?_) (fun cdv A outer s H E hr => ⟨_, (pss_cons (by exact ps_set (i := 1) sc__law_odd.nd rfl (.inl rfl) (by exact pe_lst (by exact pa_cons pe_non (by exact pa_cons pe_bl (by exact pa_cons pe_bl (by exact pa_cons pe_int (by exact pa_cons pe_int (by exact pa_cons (by exact pe_un un_neg pe_int) (by exact pa_cons pe_int (by exact pa_cons pe_int (by exact pa_cons pe_int (by exact pa_cons (by exact pe_op op_pow pe_int pe_int) (by exact pa_cons (by exact pe_op op_add (by exact pe_op op_pow pe_int pe_int) pe_int) (by exact pa_cons (by exact pe_op op_pow pe_int pe_int) (by exact pa_cons pe_str (by exact pa_cons pe_str (by exact pa_cons pe_str (by exact pa_cons (by exact pe_tup pa_nil) (by exact pa_cons (by exact pe_tup (by exact pa_cons pe_int pa_nil)) pa_nil))))))))))))))))))) (by exact pss_one (by exact ps_ret (by exact pe_ix (ixs K) (by exact pe_op op_cat (pv 1) (by exact pe_lst (by exact pa_cons (by exact pe_tup (by exact pa_cons pe_int (by exact pa_cons pe_int pa_nil))) (by exact pa_cons (by exact pe_lst pa_nil) (by exact pa_cons pe_dnewK (by exact pa_cons (by exact pe_lst (by exact pa_cons pe_int pa_nil)) (by exact pa_cons (by exact pe_tup (by exact pa_cons pe_bl pa_nil)) (by exact pa_cons (by exact pe_tup (by exact pa_cons (by exact pe_tup pa_nil) pa_nil)) pa_nil)))))))) (by exact pe_cal C__law_next (hr.mono (by first | decide | omega)) (by rfl) (by exact pa_cons (pv 0) (by exact pa_cons pe_int pa_nil))) (fun _ _ => rfl))))), fun ds I c R hI hS => ?_⟩)
  · obtain ⟨a, rfl, _⟩ := h
    rfl
  · obtain ⟨a, rfl, rfl, hp⟩ := hS
    obtain ⟨a', r', e1, rfl⟩ := hI
    cases e1
    refine Sv.le (v_set (c2 := 1) (P := fun d => ∃ xs : List Dt, d = .lst xs ∧ xs.length = 17 ∧ ∀ x ∈ xs, R x) (e_lstP (p_cons (ev_non.imp fun _ e => by rw [e]; exact hp _ ⟨by decide +kernel, by decide +kernel, by decide +kernel⟩) (p_cons (ev_bl.imp fun _ e => by rw [e]; exact hp _ ⟨by decide +kernel, by decide +kernel, by decide +kernel⟩) (p_cons (ev_bl.imp fun _ e => by rw [e]; exact hp _ ⟨by decide +kernel, by decide +kernel, by decide +kernel⟩) (p_cons (ev_int.imp fun _ e => by rw [e]; exact hp _ ⟨by decide +kernel, by decide +kernel, by decide +kernel⟩) (p_cons (ev_int.imp fun _ e => by rw [e]; exact hp _ ⟨by decide +kernel, by decide +kernel, by decide +kernel⟩) (p_cons ((e_un ev_int und_neg).imp fun _ e => by rw [e]; exact hp _ ⟨by decide +kernel, by decide +kernel, by decide +kernel⟩) (p_cons (ev_int.imp fun _ e => by rw [e]; exact hp _ ⟨by decide +kernel, by decide +kernel, by decide +kernel⟩) (p_cons (ev_int.imp fun _ e => by rw [e]; exact hp _ ⟨by decide +kernel, by decide +kernel, by decide +kernel⟩) (p_cons (ev_int.imp fun _ e => by rw [e]; exact hp _ ⟨by decide +kernel, by decide +kernel, by decide +kernel⟩) (p_cons ((e_op ev_int ev_int (opd_pow ⟨by decide, by decide, by decide⟩)).imp fun _ e => by rw [e]; exact hp _ ⟨by decide +kernel, by decide +kernel, by decide +kernel⟩) (p_cons ((e_op (e_op ev_int ev_int (opd_pow ⟨by decide, by decide, by decide⟩)) ev_int opd_add).imp fun _ e => by rw [e]; exact hp _ ⟨by decide +kernel, by decide +kernel, by decide +kernel⟩) (p_cons ((e_op ev_int ev_int (opd_pow ⟨by decide, by decide, by decide⟩)).imp fun _ e => by rw [e]; exact hp _ ⟨by decide +kernel, by decide +kernel, by decide +kernel⟩) (p_cons (ev_str.imp fun _ e => by rw [e]; exact hp _ ⟨by decide +kernel, by decide +kernel, by decide +kernel⟩) (p_cons (ev_str.imp fun _ e => by rw [e]; exact hp _ ⟨by decide +kernel, by decide +kernel, by decide +kernel⟩) (p_cons (ev_str.imp fun _ e => by rw [e]; exact hp _ ⟨by decide +kernel, by decide +kernel, by decide +kernel⟩) (p_cons ((e_tup a_nil (by decide)).imp fun _ e => by rw [e]; exact hp _ ⟨by decide +kernel, by decide +kernel, by decide +kernel⟩) (p_cons ((e_tup (a_cons ev_int a_nil) (by show 1 ≤ sizeLine; decide)).imp fun _ e => by rw [e]; exact hp _ ⟨by decide +kernel, by decide +kernel, by decide +kernel⟩) p_nil))))))))))))))))) (by decide)) fun d hd => ?_) (by omega)
    obtain ⟨xs, rfl, hl, hx⟩ := hd
    exact Sv.le (sv_ret (e_pickV (xs := []) (n := 23) (e_catP (n := 17) (m := 6) ((ev_var (d := .lst xs) rfl).imp fun _ e => ⟨xs, e, hl, hx⟩) (e_lstP (p_cons ((e_tup (a_cons ev_int (a_cons ev_int a_nil)) (by show 2 ≤ sizeLine; decide)).imp fun _ e => by rw [e]; exact hp _ ⟨by decide +kernel, by decide +kernel, by decide +kernel⟩) (p_cons ((e_lst a_nil (by decide)).imp fun _ e => by rw [e]; exact hp _ ⟨by decide +kernel, by decide +kernel, by decide +kernel⟩) (p_cons (e_dic.imp fun _ e => by rw [e]; exact hp _ ⟨by decide +kernel, by decide +kernel, by decide +kernel⟩) (p_cons ((e_lst (a_cons ev_int a_nil) (by show 1 ≤ sizeLine; decide)).imp fun _ e => by rw [e]; exact hp _ ⟨by decide +kernel, by decide +kernel, by decide +kernel⟩) (p_cons ((e_tup (a_cons ev_bl a_nil) (by show 1 ≤ sizeLine; decide)).imp fun _ e => by rw [e]; exact hp _ ⟨by decide +kernel, by decide +kernel, by decide +kernel⟩) (p_cons ((e_tup (a_cons (e_tup a_nil (by decide)) a_nil) (by show 1 ≤ sizeLine; decide)).imp fun _ e => by rw [e]; exact hp _ ⟨by decide +kernel, by decide +kernel, by decide +kernel⟩) p_nil)))))) (by decide)) (by decide)) (e_call (c2 := 1) (a_cons (ev_var rfl) (a_cons ev_int a_nil)) ⟨a, _, rfl, rfl⟩ ⟨a, _, rfl, by decide, by decide, rfl, fun i i0 i1 => ⟨i, rfl, i0, i1⟩⟩))) (by omega)
theorem ok__law_are_levels {a0 : Addr} {fd0 : FuncData} (F0 : Fun K "_law_are_levels" "_law_are_levels" s__law_are_levels a0 fd0) (C__law_whole : Cal P w K mg base 1 "_law_whole" ["_law_thing"] (sp__law_whole K)) (z_isinstance : mg "isinstance" = none) (z_tuple : mg "tuple" = none) (z_len : mg "len" = none) : FnOk P w K mg base CX0 2 a0 fd0 ["_law_thing", "_law_count"] (sp__law_are_levels K) := by
  refine fn_mk F0 sc__law_are_levels (fun ds c p h => ?_) (fun cdv A outer s H E hr => ⟨_, (pss_cons (by exact ps_if (by exact PW.pt (by exact pw_or (by exact pt_not (by exact pt_val (by exact pe_callB (isiK K) (by rfl) z_isinstance boot_isinstance (by exact pa_cons (pv 0) (by exact pa_cons (by exact pe_bltn (v := .ty "tuple") (by rfl) z_tuple boot_tuple rfl) pa_nil))))) (by exact pw_or1 (by exact pt_cmpR op_ne (by exact pe_callB (lenK K) (by rfl) z_len PySem.boot_len (by exact pa_cons (pv 0) pa_nil)) (pv 1) (nomark _))))) (by exact pss_one (by exact ps_ret pe_bl)) pss_nil) (by exact pss_one (by exact ps_ret (by exact pe_cmpR (eqE K hr.units) (by exact pe_lc (own := [("_law_one_here", 2)]) (g := gName 2) (by rfl) sc__law_are_levels.nd (by exact piT K (pv 0)) (blkOk_by (own := [("_law_one_here", 2)]) (N := ["_law_thing", "_law_count", "_law_one_here"]) (sc := defScope s__law_are_levels) (by decide +kernel)) (fun _ _ _ _ _ => (by exact pg_name (i := 2) sc__law_are_levels.nd rfl (.inl rfl))) (fun _ _ _ _ _ => (by exact pts_one (by exact PW.pt (by exact pw_or (by exact pt_not (by exact pt_val (by exact pe_cal C__law_whole (hr.mono (by first | decide | omega)) (by rfl) (by exact pa_cons (pv 2) pa_nil)))) (by exact pw_or1 (by exact pt_not (by exact pt_chain op_le op_le pe_int (pv 2) (by exact pe_op op_pow pe_int pe_int)))))))) (fun _ _ _ _ _ => (pv 2))) (by exact pe_lst pa_nil) (nomark _))))), fun ds I c R hI hS => ?_⟩)
  · obtain ⟨d, n, rfl, _⟩ := h
    rfl
  · obtain ⟨d, n, rfl, hv, hn, hp⟩ := hS
    have hpl := valD.plain hv
    cases hi : isTupD d with
    | false =>
      refine Sv.le (v_ifs (c2 := 0) (c3 := 0) (t_or (b2 := false) (c2 := 0) (t_not (t_B (e_cb (a_cons (ev_var rfl) (a_cons ev_cls a_nil)) (cd_isi hpl (kit_tup hpl))))) fun e => ?_) (fun _ => sv_retS (ev_bl.imp fun _ e => ?_)) fun e => v_no ?_) (by omega)
      · rw [hi] at e
        cases e
      · have z : areLevD d n = false := by
          cases d <;> first | rfl | (cases hi; done)
        rw [z] at hp
        rw [e]
        exact hp
      · rw [hi] at e
        cases e
    | true =>
      cases d with
      | tup xs =>
        refine Sv.le (v_ifs (c2 := 0) (c3 := 0) (t_or (c2 := 0) (t_not (t_B (e_cb (a_cons (ev_var rfl) (a_cons ev_cls a_nil)) (cd_isi hpl (kit_tup hpl))))) fun _ => t_test (e_op (e_cb (a_cons (ev_var rfl) a_nil) (cd_len rfl)) (ev_var rfl) (opd_ne rfl))) (fun e => sv_retS (ev_bl.imp fun _ e2 => ?_)) fun e => sv_nextS ?_) (by omega)
        · have z : areLevD (.tup xs) n = false := by
            have e3 : (!decide ((xs.length : Int) = n)) = true := e
            rw [Bool.not_eq_true'] at e3
            show (decide ((xs.length : Int) = n) && _) = false
            rw [e3]
            rfl
          rw [z] at hp
          rw [e2]
          exact hp
        · have e3 : (!decide ((xs.length : Int) = n)) = false := e
          rw [Bool.not_eq_false'] at e3
          have hl := of_decide_eq_true e3
          refine Sv.le (sv_ret ((e_op ((e_lc (ct := 0) (ce := 0) (n := 1000) (js := [2]) (i_tup (ev_var rfl)) (by omega) (by decide) (fun j h => h) (fun d Δ => Δ.set 2 (some d)) (fun d => if isLevD d then none else some d) fun d hd => ?_)) (e_lst a_nil (by decide)) opd_eqE).imp fun _ e => ?_)) (by omega)
          · have hvd := valD_tup hv d hd
            refine ⟨gd_name, !isLevD d, ?_, fun z => ?_, fun z => (ev_var (d := d) rfl).imp fun _ e4 => ?_⟩
            · cases hi2 : isIntD d with
              | false =>
                have z : isLevD d = false := by
                  cases d <;> first | rfl | (cases hi2; done)
                refine (t_or (b2 := false) (c2 := 0) (c1 := 0) (t_not (t_B (e_call (c2 := 0) (a_cons (ev_var rfl) a_nil) trivial ⟨d, rfl, hvd, rfl⟩))) fun e => ?_).imp fun _ e => ?_
                · rw [hi2] at e
                  cases e
                · rw [e, hi2, z]
                  rfl
              | true =>
                cases d with
                | int i =>
                  refine (t_or (c2 := 0) (c1 := 0) (t_not (t_B (e_call (c2 := 0) (a_cons (ev_var rfl) a_nil) trivial ⟨.int i, rfl, hvd, rfl⟩))) fun _ => t_not (t_chain ev_int (ev_var rfl) opd_le (fun _ => e_op ev_int ev_int (opd_pow ⟨by decide, by decide, by decide⟩)) (fun _ => opd_le))).imp fun _ e => ?_
                  rw [e]
                  rfl
                | _ => cases hi2
            · rw [Bool.not_eq_false'] at z
              rw [if_pos z]
            · rw [Bool.not_eq_true'] at z
              rw [z, e4]
              rfl
          · rw [e, all_empty]
            have z : areLevD (.tup xs) n = xs.all isLevD := by
              show (decide ((xs.length : Int) = n) && _) = _
              rw [decide_eq_true hl, Bool.true_and]
            rw [z] at hp
            exact hp
      | _ => cases hi
theorem ok__law_is_table {a0 : Addr} {fd0 : FuncData} (F0 : Fun K "_law_is_table" "_law_is_table" s__law_is_table a0 fd0) (C__law_are_levels : Cal P w K mg base 2 "_law_are_levels" ["_law_thing", "_law_count"] (sp__law_are_levels K)) (z_isinstance : mg "isinstance" = none) (z_tuple : mg "tuple" = none) (z_len : mg "len" = none) : FnOk P w K mg base CX0 3 a0 fd0 ["_law_thing"] (sp__law_is_table K) := by
  refine fn_mk F0 sc__law_is_table (fun ds c p h => ?_) (fun cdv A outer s H E hr => ⟨_, (pss_cons (by exact ps_if (by exact PW.pt (by exact pw_or (by exact pt_not (by exact pt_val (by exact pe_callB (isiK K) (by rfl) z_isinstance boot_isinstance (by exact pa_cons (pv 0) (by exact pa_cons (by exact pe_bltn (v := .ty "tuple") (by rfl) z_tuple boot_tuple rfl) pa_nil))))) (by exact pw_or1 (by exact pt_not (by exact pt_chain op_le op_le pe_int (by exact pe_callB (lenK K) (by rfl) z_len PySem.boot_len (by exact pa_cons (pv 0) pa_nil)) pe_int))))) (by exact pss_one (by exact ps_ret pe_bl)) pss_nil) (by exact pss_cons (by exact ps_if (by exact PW.pt (by exact pw_or (by exact pt_not (by exact pt_val (by exact pe_callB (isiK K) (by rfl) z_isinstance boot_isinstance (by exact pa_cons (by exact pe_ix (ixs K) (pv 0) pe_int (fun _ _ => rfl)) (by exact pa_cons (by exact pe_bltn (v := .ty "tuple") (by rfl) z_tuple boot_tuple rfl) pa_nil))))) (by exact pw_or1 (by exact pt_not (by exact pt_chain op_le op_le pe_int (by exact pe_callB (lenK K) (by rfl) z_len PySem.boot_len (by exact pa_cons (by exact pe_ix (ixs K) (pv 0) pe_int (fun _ _ => rfl)) pa_nil)) pe_int))))) (by exact pss_one (by exact ps_ret pe_bl)) pss_nil) (by exact pss_one (by exact ps_ret (by exact pe_cmpR (eqE K hr.units) (by exact pe_lc (own := [("_law_row_here", 1)]) (g := gName 1) (by rfl) sc__law_is_table.nd (by exact piT K (pv 0)) (blkOk_by (own := [("_law_row_here", 1)]) (N := ["_law_thing", "_law_row_here"]) (sc := defScope s__law_is_table) (by decide +kernel)) (fun _ _ _ _ _ => (by exact pg_name (i := 1) sc__law_is_table.nd rfl (.inl rfl))) (fun _ _ _ _ _ => (by exact pts_one (by exact pt_not (by exact pt_val (by exact pe_cal C__law_are_levels (hr.mono (by first | decide | omega)) (by rfl) (by exact pa_cons (pv 1) (by exact pa_cons (by exact pe_callB (lenK K) (by rfl) z_len PySem.boot_len (by exact pa_cons (by exact pe_ix (ixs K) (pv 0) pe_int (fun _ _ => rfl)) pa_nil)) pa_nil))))))) (fun _ _ _ _ _ => (pv 1))) (by exact pe_lst pa_nil) (nomark _)))))), fun ds I c R hI hS => ?_⟩)
  · obtain ⟨d, rfl, _⟩ := h
    rfl
  · obtain ⟨d, rfl, hv, hp⟩ := hS
    have hpl := valD.plain hv
    cases hi : isTupD d with
    | false =>
      refine Sv.le (v_ifs (c2 := 0) (c3 := 0) (t_or (b2 := false) (c2 := 0) (t_not (t_B (e_cb (a_cons (ev_var rfl) (a_cons ev_cls a_nil)) (cd_isi hpl (kit_tup hpl))))) fun e => ?_) (fun _ => sv_retS (ev_bl.imp fun _ e => ?_)) fun e => v_no ?_) (by omega)
      · rw [hi] at e
        cases e
      · have z : isTblD d = false := by
          cases d <;> first | rfl | (cases hi; done)
        rw [z] at hp
        rw [e]
        exact hp
      · rw [hi] at e
        cases e
    | true =>
      cases d with
      | tup xs =>
        refine Sv.le (v_ifs (c2 := 0) (c3 := 0) (t_or (c2 := 0) (t_not (t_B (e_cb (a_cons (ev_var rfl) (a_cons ev_cls a_nil)) (cd_isi hpl (kit_tup hpl))))) fun _ => t_not (t_chain ev_int (e_cb (a_cons (ev_var rfl) a_nil) (cd_len rfl)) opd_le (fun _ => ev_int) (fun _ => opd_le))) (fun e => sv_retS (ev_bl.imp fun _ e2 => ?_)) fun e => sv_nextS ?_) (by omega)
        · have e3 : (!(decide (1 ≤ (xs.length : Int)) && decide ((xs.length : Int) ≤ 6))) = true := e
          have z : isTblD (.tup xs) = false := by
            match xs with
            | [] => rfl
            | .tup ys :: l =>
              have e4 : decide (((Dt.tup ys :: l).length : Int) ≤ 6) = false := by
                rw [Bool.not_eq_true', Bool.and_eq_false_iff] at e3
                rcases e3 with q | q
                · have := of_decide_eq_false q
                  rw [List.length_cons] at this
                  omega
                · exact q
              show (decide (((Dt.tup ys :: l).length : Int) ≤ 6) && _) = false
              rw [e4]
              rfl
            | .non :: _ => rfl
            | .bl _ :: _ => rfl
            | .int _ :: _ => rfl
            | .str _ :: _ => rfl
            | .lst _ :: _ => rfl
            | .dic :: _ => rfl
            | .ptr _ :: _ => rfl
            | .cls _ :: _ => rfl
            | .scr _ :: _ => rfl
          rw [z] at hp
          rw [e2]
          exact hp
        · have e3 : (!(decide (1 ≤ (xs.length : Int)) && decide ((xs.length : Int) ≤ 6))) = false := e
          rw [Bool.not_eq_false', Bool.and_eq_true, decide_eq_true_eq, decide_eq_true_eq] at e3
          obtain ⟨f, l, rfl⟩ : ∃ f l, xs = f :: l := by
            cases xs with
            | nil => exact absurd e3.1 (by decide)
            | cons f l => exact ⟨f, l, rfl⟩
          have hvf := valD_tup hv f List.mem_cons_self
          have hpf := valD.plain hvf
          have at0 : atI (f :: l) (0 : Int) = some f := atI_nat (j := 0) rfl
          skip
          cases hj : isTupD f with
          | false =>
            refine Sv.le (v_ifs (c2 := 0) (c3 := 0) (t_or (b2 := false) (c2 := 0) (t_not (t_B (e_cb (a_cons (e_op (ev_var rfl) ev_int (opd_ix rfl at0)) (a_cons ev_cls a_nil)) (cd_isi hpf (kit_tup hpf))))) fun e => ?_) (fun _ => sv_retS (ev_bl.imp fun _ e => ?_)) fun e => v_no ?_) (by omega)
            · rw [hj] at e
              cases e
            · have z : isTblD (.tup (f :: l)) = false := by
                cases f <;> first | rfl | (cases hj; done)
              rw [z] at hp
              rw [e]
              exact hp
            · rw [hj] at e
              cases e
          | true =>
            cases f with
            | tup ys =>
              have z : isTblD (.tup (.tup ys :: l)) = ((decide (1 ≤ (ys.length : Int)) && decide ((ys.length : Int) ≤ 6)) && (Dt.tup ys :: l).all fun r => areLevD r ys.length) := by
                show (decide (((Dt.tup ys :: l).length : Int) ≤ 6) && _) = _
                rw [decide_eq_true e3.2, Bool.true_and]
              rw [z] at hp
              refine Sv.le (v_ifs (c2 := 0) (c3 := 0) (t_or (c2 := 0) (t_not (t_B (e_cb (a_cons (e_op (ev_var rfl) ev_int (opd_ix rfl at0)) (a_cons ev_cls a_nil)) (cd_isi hpf (kit_tup hpf))))) fun _ => t_not (t_chain ev_int (e_cb (a_cons (e_op (ev_var rfl) ev_int (opd_ix rfl at0)) a_nil) (cd_len rfl)) opd_le (fun _ => ev_int) (fun _ => opd_le))) (fun e => sv_retS (ev_bl.imp fun _ e2 => ?_)) fun e => sv_nextS ?_) (by omega)
              · have e4 : (!(decide (1 ≤ (ys.length : Int)) && decide ((ys.length : Int) ≤ 6))) = true := e
                rw [Bool.not_eq_true'] at e4
                rw [e4] at hp
                rw [e2]
                exact hp
              · have e4 : (!(decide (1 ≤ (ys.length : Int)) && decide ((ys.length : Int) ≤ 6))) = false := e
                rw [Bool.not_eq_false'] at e4
                rw [e4, Bool.true_and] at hp
                rw [Bool.and_eq_true, decide_eq_true_eq, decide_eq_true_eq] at e4
                have hlen : (Dt.tup ys :: l).length ≤ 6 := by omega
                refine Sv.le (sv_ret ((e_op ((e_lc (ct := 0) (ce := 0) (n := 6) (js := [1]) (i_tup (ev_var rfl)) hlen (by decide) (fun j h => h) (fun d Δ => Δ.set 1 (some d)) (fun d => if areLevD d ys.length then none else some d) fun d hd => ?_)) (e_lst a_nil (by decide)) opd_eqE).imp fun _ e => ?_)) (by omega)
                · refine ⟨gd_name, !areLevD d ys.length, t_not (t_B (e_call (c2 := 0) (a_cons (ev_var rfl) (a_cons (e_cb (a_cons (e_op (ev_var rfl) ev_int (opd_ix rfl at0)) a_nil) (cd_len rfl)) a_nil)) trivial ⟨d, _, rfl, valD_tup hv d hd, by omega, rfl⟩)), fun z => ?_, fun z => (ev_var (d := d) rfl).imp fun _ e4 => ?_⟩
                  · rw [Bool.not_eq_false'] at z
                    rw [if_pos z]
                  · rw [Bool.not_eq_true'] at z
                    rw [z, e4]
                    rfl
                · rw [e, all_empty]
                  exact hp
            | _ => cases hj
      | _ => cases hi
theorem rec__law_same {a0 : Addr} {fd0 : FuncData} (F0 : Fun K "_law_same" "_law_same" s__law_same a0 fd0) (hm : mg "_law_same" = some (.ref a0)) (hb : Binds K fd0 ["_law_found", "_law_due"] []) (z_isinstance : mg "isinstance" = none) (z_dict : mg "dict" = none) (z_str : mg "str" = none) (z_tuple : mg "tuple" = none) (z_list : mg "list" = none) (z_int : mg "int" = none) (z_len : mg "len" = none) (z_bool : mg "bool" = none) (z_range : mg "range" = none) : ∀ k : Nat, FnOk P w K mg base CX0 (1 + k) a0 fd0 ["_law_found", "_law_due"] (rsp__law_same k K) := by
  intro k
  induction k with
  | zero => exact fn_no fun ds c p h => by obtain ⟨d, _, _, z, _⟩ := h; exact absurd z (Nat.not_lt_zero _)
  | succ k ih =>
    have C__law_same := cal_mk F0 ih hm hb
    refine fn_mk F0 sc__law_same (fun ds c p h => ?_) (fun cdv A outer s H E (hr : Room (1 + k) _) => ⟨_, (pss_cons (by exact ps_if (by exact pt_val (by exact pe_callB (isiTK K) (by rfl) z_isinstance boot_isinstance (by exact pa_cons (pv 1) (by exact pa_cons (by exact pe_tup (by exact pa_cons (by exact pe_bltn (v := .ty "tuple") (by rfl) z_tuple boot_tuple rfl) (by exact pa_cons (by exact pe_bltn (v := .ty "list") (by rfl) z_list boot_list rfl) pa_nil))) pa_nil)))) (by exact pss_cons (by exact ps_if (by exact pt_cmpR op_ne (by exact pe_callB (isiK K) (by rfl) z_isinstance boot_isinstance (by exact pa_cons (pv 0) (by exact pa_cons (by exact pe_bltn (v := .ty "tuple") (by rfl) z_tuple boot_tuple rfl) pa_nil))) (by exact pe_callB (isiK K) (by rfl) z_isinstance boot_isinstance (by exact pa_cons (pv 1) (by exact pa_cons (by exact pe_bltn (v := .ty "tuple") (by rfl) z_tuple boot_tuple rfl) pa_nil))) (nomark _)) (by exact pss_one (by exact ps_ret pe_bl)) pss_nil) (by exact pss_cons (by exact ps_if (by exact pt_cmpR op_ne (by exact pe_callB (isiK K) (by rfl) z_isinstance boot_isinstance (by exact pa_cons (pv 0) (by exact pa_cons (by exact pe_bltn (v := .ty "list") (by rfl) z_list boot_list rfl) pa_nil))) (by exact pe_callB (isiK K) (by rfl) z_isinstance boot_isinstance (by exact pa_cons (pv 1) (by exact pa_cons (by exact pe_bltn (v := .ty "list") (by rfl) z_list boot_list rfl) pa_nil))) (nomark _)) (by exact pss_one (by exact ps_ret pe_bl)) pss_nil) (by exact pss_cons (by exact ps_if (by exact pt_cmpR op_ne (by exact pe_callB (lenK K) (by rfl) z_len PySem.boot_len (by exact pa_cons (pv 0) pa_nil)) (by exact pe_callB (lenK K) (by rfl) z_len PySem.boot_len (by exact pa_cons (pv 1) pa_nil)) (nomark _)) (by exact pss_one (by exact ps_ret pe_bl)) pss_nil) (by exact pss_one (by exact ps_ret (by exact pe_cmpR (eqE K hr.units) (by exact pe_lc (own := [("_law_k", 2)]) (g := gName 2) (by rfl) sc__law_same.nd (by exact pi_range1 (by rfl) z_range (by exact pa_cons (by exact pe_callB (lenK K) (by rfl) z_len PySem.boot_len (by exact pa_cons (pv 1) pa_nil)) pa_nil)) (blkOk_by (own := [("_law_k", 2)]) (N := ["_law_found", "_law_due", "_law_k"]) (sc := defScope s__law_same) (by decide +kernel)) (fun _ _ _ _ _ => (by exact pg_name (i := 2) sc__law_same.nd rfl (.inl rfl))) (fun _ _ _ _ _ => (by exact pts_one (by exact pt_not (by exact pt_val (by exact pe_cal C__law_same (hr.mono (by first | decide | omega)) (by rfl) (by exact pa_cons (by exact pe_ix (ixs K) (pv 0) (pv 2) (fun _ _ => rfl)) (by exact pa_cons (by exact pe_ix (ixs K) (pv 1) (pv 2) (fun _ _ => rfl)) pa_nil))))))) (fun _ _ _ _ _ => (pv 2))) (by exact pe_lst pa_nil) (nomark _))))))) pss_nil) (by exact pss_cons (by exact ps_if (by exact pt_val (by exact pe_callB (isiK K) (by rfl) z_isinstance boot_isinstance (by exact pa_cons (pv 1) (by exact pa_cons (by exact pe_bltn (v := .ty "dict") (by rfl) z_dict boot_dict rfl) pa_nil)))) (by exact pss_one (by exact ps_ret (by exact pe_and (by exact pe_callB (isiK K) (by rfl) z_isinstance boot_isinstance (by exact pa_cons (pv 0) (by exact pa_cons (by exact pe_bltn (v := .ty "dict") (by rfl) z_dict boot_dict rfl) pa_nil))) (by exact pe_one (by exact pe_cmpR op_eq (pv 0) (pv 1) (nomark _)))))) pss_nil) (by exact pss_cons (by exact ps_if (by exact pt_cmpR op_isN (pv 1) pe_non (nomark _)) (by exact pss_one (by exact ps_ret (by exact pe_cmpR op_isN (pv 0) pe_non (nomark _)))) pss_nil) (by exact pss_cons (by exact ps_if (by exact pt_val (by exact pe_callB (isiK K) (by rfl) z_isinstance boot_isinstance (by exact pa_cons (pv 1) (by exact pa_cons (by exact pe_bltn (v := .ty "str") (by rfl) z_str boot_str rfl) pa_nil)))) (by exact pss_one (by exact ps_ret (by exact pe_and (by exact pe_callB (isiK K) (by rfl) z_isinstance boot_isinstance (by exact pa_cons (pv 0) (by exact pa_cons (by exact pe_bltn (v := .ty "str") (by rfl) z_str boot_str rfl) pa_nil))) (by exact pe_one (by exact pe_cmpR op_eq (pv 0) (pv 1) (nomark _)))))) pss_nil) (by exact pss_one (by exact ps_ret (by exact pe_and (by exact pe_callB (isiK K) (by rfl) z_isinstance boot_isinstance (by exact pa_cons (pv 0) (by exact pa_cons (by exact pe_bltn (v := .ty "int") (by rfl) z_int boot_int rfl) pa_nil))) (by exact pe_and (by exact pe_cmpR op_eq (by exact pe_callB (isiK K) (by rfl) z_isinstance boot_isinstance (by exact pa_cons (pv 0) (by exact pa_cons (by exact pe_bltn (v := .ty "bool") (by rfl) z_bool boot_bool rfl) pa_nil))) (by exact pe_callB (isiK K) (by rfl) z_isinstance boot_isinstance (by exact pa_cons (pv 1) (by exact pa_cons (by exact pe_bltn (v := .ty "bool") (by rfl) z_bool boot_bool rfl) pa_nil))) (nomark _)) (by exact pe_one (by exact pe_cmpR op_eq (pv 0) (pv 1) (nomark _))))))))))), fun ds I c R hI hS => ?_⟩)
    · obtain ⟨d, rfl, _⟩ := h
      rfl
    · obtain ⟨d, rfl, hf, hd2, hz, hp⟩ := hS
      have hpl : plainD d = true := by
        cases d <;> first | rfl | (cases hf; done)
      cases d with
      | lst xs =>
        have hl := szDs_len xs
        have hz2 : szDs xs ≤ 1000 := hz
        refine Sv.le (v_ifs (c2 := 0) (c3 := 0) (t_B (e_cb (a_cons (ev_var rfl) (a_cons (e_tup (a_cons ev_cls (a_cons ev_cls a_nil)) (by show 2 ≤ sizeLine; decide)) a_nil)) (cd_isiT hpl (kit_tup hpl) (kit_lst hpl)))) (fun _ => ?_) fun e => (by cases e)) (by omega)
        refine Sv.le (sv_seq (c1 := 0) (c2 := 0) (N1 := fun _ => False) ?_ fun _ h => h.elim) (by omega)
        refine Sv.le (v_ifs (c2 := 0) (c3 := 0) (t_test (e_op (e_cb (a_cons (ev_var rfl) (a_cons ev_cls a_nil)) (cd_isi hpl (kit_tup hpl))) (e_cb (a_cons (ev_var rfl) (a_cons ev_cls a_nil)) (cd_isi hpl (kit_tup hpl))) (opd_ne rfl))) (fun e => (by cases e)) fun _ => sv_nextS (v_ifs (c2 := 0) (c3 := 0) (t_test (e_op (e_cb (a_cons (ev_var rfl) (a_cons ev_cls a_nil)) (cd_isi hpl (kit_lst hpl))) (e_cb (a_cons (ev_var rfl) (a_cons ev_cls a_nil)) (cd_isi hpl (kit_lst hpl))) (opd_ne rfl))) (fun e => (by cases e)) fun _ => sv_nextS (v_ifs (c2 := 0) (c3 := 0) (t_test (e_op (e_cb (a_cons (ev_var rfl) a_nil) (cd_len rfl)) (e_cb (a_cons (ev_var rfl) a_nil) (cd_len rfl)) (opd_ne rfl))) (fun e => v_no ?_) fun _ => sv_nextS (sv_ret ((e_op ((e_lc (ct := 0) (ce := 0) (n := 1000) (js := [2]) (i_rng (n := (xs.length : Int)) (a_cons (e_cb (a_cons (ev_var rfl) a_nil) (cd_len rfl)) a_nil) (by omega) (by omega)) (by rw [rngD_len]; omega) (by decide) (fun j h => h) (fun d Δ => Δ.set 2 (some d)) (fun _ => none) fun d hd => ?_).to (y := .lst []) ?_) (e_lst a_nil (by decide)) opd_eqE).imp fun _ e => ?_))))) (by omega)
        · rw [eqS_self rfl] at e
          cases e
        · unfold rngD at hd
          obtain ⟨j, hj, rfl⟩ := List.mem_map.mp hd
          have hj2 : j < xs.length := by
            have := List.mem_range.mp hj
            omega
          have hx : xs[j]? = some xs[j] := List.getElem?_eq_getElem hj2
          have hm := List.getElem_mem hj2
          have a1 : atI xs (0 + (j : Int)) = some xs[j] := by rw [Int.zero_add]; exact atI_nat hx
          refine ⟨gd_name, false, t_not (b := true) (t_B (e_call (c2 := 0) (a_cons (e_op (ev_var rfl) (ev_var rfl) (opd_ix rfl a1)) (a_cons (e_op (ev_var rfl) (ev_var rfl) (opd_ix rfl a1)) a_nil)) trivial ⟨xs[j], rfl, flat_mem hf _ hm, ?_, ?_, rfl⟩)), fun _ => rfl, fun z => (by cases z)⟩
          · have h1 := dpDs_mem hm
            have h2 : dpDs xs + 1 < k + 1 := hd2
            omega
          · have := szDs_mem hm
            omega
        · have key : ∀ l : List Dt, l.filterMap (fun _ => (none : Option Dt)) = [] := fun l => by
            induction l with
            | nil => rfl
            | cons x l ih => exact ih
          rw [key]
        · rw [e]
          exact hp
      | tup xs =>
        have hl := szDs_len xs
        have hz2 : szDs xs ≤ 1000 := hz
        refine Sv.le (v_ifs (c2 := 0) (c3 := 0) (t_B (e_cb (a_cons (ev_var rfl) (a_cons (e_tup (a_cons ev_cls (a_cons ev_cls a_nil)) (by show 2 ≤ sizeLine; decide)) a_nil)) (cd_isiT hpl (kit_tup hpl) (kit_lst hpl)))) (fun _ => ?_) fun e => (by cases e)) (by omega)
        refine Sv.le (sv_seq (c1 := 0) (c2 := 0) (N1 := fun _ => False) ?_ fun _ h => h.elim) (by omega)
        refine Sv.le (v_ifs (c2 := 0) (c3 := 0) (t_test (e_op (e_cb (a_cons (ev_var rfl) (a_cons ev_cls a_nil)) (cd_isi hpl (kit_tup hpl))) (e_cb (a_cons (ev_var rfl) (a_cons ev_cls a_nil)) (cd_isi hpl (kit_tup hpl))) (opd_ne rfl))) (fun e => (by cases e)) fun _ => sv_nextS (v_ifs (c2 := 0) (c3 := 0) (t_test (e_op (e_cb (a_cons (ev_var rfl) (a_cons ev_cls a_nil)) (cd_isi hpl (kit_lst hpl))) (e_cb (a_cons (ev_var rfl) (a_cons ev_cls a_nil)) (cd_isi hpl (kit_lst hpl))) (opd_ne rfl))) (fun e => (by cases e)) fun _ => sv_nextS (v_ifs (c2 := 0) (c3 := 0) (t_test (e_op (e_cb (a_cons (ev_var rfl) a_nil) (cd_len rfl)) (e_cb (a_cons (ev_var rfl) a_nil) (cd_len rfl)) (opd_ne rfl))) (fun e => v_no ?_) fun _ => sv_nextS (sv_ret ((e_op ((e_lc (ct := 0) (ce := 0) (n := 1000) (js := [2]) (i_rng (n := (xs.length : Int)) (a_cons (e_cb (a_cons (ev_var rfl) a_nil) (cd_len rfl)) a_nil) (by omega) (by omega)) (by rw [rngD_len]; omega) (by decide) (fun j h => h) (fun d Δ => Δ.set 2 (some d)) (fun _ => none) fun d hd => ?_).to (y := .lst []) ?_) (e_lst a_nil (by decide)) opd_eqE).imp fun _ e => ?_))))) (by omega)
        · rw [eqS_self rfl] at e
          cases e
        · unfold rngD at hd
          obtain ⟨j, hj, rfl⟩ := List.mem_map.mp hd
          have hj2 : j < xs.length := by
            have := List.mem_range.mp hj
            omega
          have hx : xs[j]? = some xs[j] := List.getElem?_eq_getElem hj2
          have hm := List.getElem_mem hj2
          have a1 : atI xs (0 + (j : Int)) = some xs[j] := by rw [Int.zero_add]; exact atI_nat hx
          refine ⟨gd_name, false, t_not (b := true) (t_B (e_call (c2 := 0) (a_cons (e_op (ev_var rfl) (ev_var rfl) (opd_ix rfl a1)) (a_cons (e_op (ev_var rfl) (ev_var rfl) (opd_ix rfl a1)) a_nil)) trivial ⟨xs[j], rfl, flat_mem hf _ hm, ?_, ?_, rfl⟩)), fun _ => rfl, fun z => (by cases z)⟩
          · have h1 := dpDs_mem hm
            have h2 : dpDs xs + 1 < k + 1 := hd2
            omega
          · have := szDs_mem hm
            omega
        · have key : ∀ l : List Dt, l.filterMap (fun _ => (none : Option Dt)) = [] := fun l => by
            induction l with
            | nil => rfl
            | cons x l ih => exact ih
          rw [key]
        · rw [e]
          exact hp
      | non =>
        refine Sv.le (v_ifs (c2 := 0) (c3 := 0) (t_B (e_cb (a_cons (ev_var rfl) (a_cons (e_tup (a_cons ev_cls (a_cons ev_cls a_nil)) (by show 2 ≤ sizeLine; decide)) a_nil)) (cd_isiT hpl (kit_tup hpl) (kit_lst hpl)))) (fun e => (by cases e)) fun _ => sv_nextS (v_ifs (c2 := 0) (c3 := 0) (t_B (e_cb (a_cons (ev_var rfl) (a_cons ev_cls a_nil)) (cd_isi hpl (kit_dic hpl)))) (fun e => (by cases e)) fun _ => sv_nextS ?_)) (by omega)
        refine Sv.le (v_ifs (c2 := 0) (c3 := 0) (t_test (e_op (ev_var rfl) ev_non (opd_isN rfl fun v e => by cases e))) (fun _ => sv_retS ((e_op (ev_var rfl) ev_non (opd_isN rfl fun v e => by cases e)).imp fun _ e => ?_)) fun e => (by cases e)) (by omega)
        rw [e]
        exact hp
      | str z =>
        refine Sv.le (v_ifs (c2 := 0) (c3 := 0) (t_B (e_cb (a_cons (ev_var rfl) (a_cons (e_tup (a_cons ev_cls (a_cons ev_cls a_nil)) (by show 2 ≤ sizeLine; decide)) a_nil)) (cd_isiT hpl (kit_tup hpl) (kit_lst hpl)))) (fun e => (by cases e)) fun _ => sv_nextS (v_ifs (c2 := 0) (c3 := 0) (t_B (e_cb (a_cons (ev_var rfl) (a_cons ev_cls a_nil)) (cd_isi hpl (kit_dic hpl)))) (fun e => (by cases e)) fun _ => sv_nextS ?_)) (by omega)
        refine Sv.le (v_ifs (c2 := 0) (c3 := 0) (t_test (e_op (ev_var rfl) ev_non (opd_isN rfl fun v e => by cases e))) (fun e => (by cases e)) fun _ => sv_nextS (v_ifs (c2 := 0) (c3 := 0) (t_B (e_cb (a_cons (ev_var rfl) (a_cons ev_cls a_nil)) (cd_isi hpl (kit_str hpl)))) (fun _ => sv_retS ((e_and (e_cb (a_cons (ev_var rfl) (a_cons ev_cls a_nil)) (cd_isi hpl (kit_str hpl))) fun _ => e_op (ev_var rfl) (ev_var rfl) (opd_eq rfl)).imp fun _ e => ?_)) fun e => (by cases e))) (by omega)
        rw [e, eqS_self rfl]
        exact hp
      | int z =>
        refine Sv.le (v_ifs (c2 := 0) (c3 := 0) (t_B (e_cb (a_cons (ev_var rfl) (a_cons (e_tup (a_cons ev_cls (a_cons ev_cls a_nil)) (by show 2 ≤ sizeLine; decide)) a_nil)) (cd_isiT hpl (kit_tup hpl) (kit_lst hpl)))) (fun e => (by cases e)) fun _ => sv_nextS (v_ifs (c2 := 0) (c3 := 0) (t_B (e_cb (a_cons (ev_var rfl) (a_cons ev_cls a_nil)) (cd_isi hpl (kit_dic hpl)))) (fun e => (by cases e)) fun _ => sv_nextS ?_)) (by omega)
        refine Sv.le (v_ifs (c2 := 0) (c3 := 0) (t_test (e_op (ev_var rfl) ev_non (opd_isN rfl fun v e => by cases e))) (fun e => (by cases e)) fun _ => sv_nextS (v_ifs (c2 := 0) (c3 := 0) (t_B (e_cb (a_cons (ev_var rfl) (a_cons ev_cls a_nil)) (cd_isi hpl (kit_str hpl)))) (fun e => (by cases e)) fun _ => sv_nextS (sv_ret ((e_and (e_cb (a_cons (ev_var rfl) (a_cons ev_cls a_nil)) (cd_isi hpl (kit_int hpl))) fun _ => e_and (e_op (e_cb (a_cons (ev_var rfl) (a_cons ev_cls a_nil)) (cd_isi hpl (kit_bool hpl))) (e_cb (a_cons (ev_var rfl) (a_cons ev_cls a_nil)) (cd_isi hpl (kit_bool hpl))) (opd_eq rfl)) fun _ => e_op (ev_var rfl) (ev_var rfl) (opd_eq rfl)).imp fun _ e => ?_)))) (by omega)
        rw [e, eqS_self rfl, eqS_self rfl]
        exact hp
      | bl z =>
        refine Sv.le (v_ifs (c2 := 0) (c3 := 0) (t_B (e_cb (a_cons (ev_var rfl) (a_cons (e_tup (a_cons ev_cls (a_cons ev_cls a_nil)) (by show 2 ≤ sizeLine; decide)) a_nil)) (cd_isiT hpl (kit_tup hpl) (kit_lst hpl)))) (fun e => (by cases e)) fun _ => sv_nextS (v_ifs (c2 := 0) (c3 := 0) (t_B (e_cb (a_cons (ev_var rfl) (a_cons ev_cls a_nil)) (cd_isi hpl (kit_dic hpl)))) (fun e => (by cases e)) fun _ => sv_nextS ?_)) (by omega)
        refine Sv.le (v_ifs (c2 := 0) (c3 := 0) (t_test (e_op (ev_var rfl) ev_non (opd_isN rfl fun v e => by cases e))) (fun e => (by cases e)) fun _ => sv_nextS (v_ifs (c2 := 0) (c3 := 0) (t_B (e_cb (a_cons (ev_var rfl) (a_cons ev_cls a_nil)) (cd_isi hpl (kit_str hpl)))) (fun e => (by cases e)) fun _ => sv_nextS (sv_ret ((e_and (e_cb (a_cons (ev_var rfl) (a_cons ev_cls a_nil)) (cd_isi hpl (kit_int hpl))) fun _ => e_and (e_op (e_cb (a_cons (ev_var rfl) (a_cons ev_cls a_nil)) (cd_isi hpl (kit_bool hpl))) (e_cb (a_cons (ev_var rfl) (a_cons ev_cls a_nil)) (cd_isi hpl (kit_bool hpl))) (opd_eq rfl)) fun _ => e_op (ev_var rfl) (ev_var rfl) (opd_eq rfl)).imp fun _ e => ?_)))) (by omega)
        rw [e, eqS_self rfl, eqS_self rfl]
        exact hp
      | dic => cases hf
      | ptr _ => cases hf
      | cls _ => cases hf
      | scr _ => cases hf
theorem rec__law_bent {a0 : Addr} {fd0 : FuncData} (F0 : Fun K "_law_bent" "_law_bent" s__law_bent a0 fd0) (hm : mg "_law_bent" = some (.ref a0)) (hb : Binds K fd0 ["_law_deck_here", "_law_thing", "_law_deep"] []) (C__law_odd : Cal P w K mg base 2 "_law_odd" ["_law_deck_here"] (sp__law_odd K)) (C__law_next : Cal P w K mg base 1 "_law_next" ["_law_deck_here", "_law_many"] (sp__law_next K)) (z_isinstance : mg "isinstance" = none) (z_tuple : mg "tuple" = none) (z_int : mg "int" = none) (z_len : mg "len" = none) (z_list : mg "list" = none) (z_str : mg "str" = none) : ∀ k : Nat, FnOk P w K mg base CX0 (3 + k) a0 fd0 ["_law_deck_here", "_law_thing", "_law_deep"] (rsp__law_bent k K) := by
  intro k
  induction k with
  | zero => exact fn_no fun ds c p h => by obtain ⟨a, d, e, _, z, _⟩ := h; exact absurd z (Nat.not_lt_zero _)
  | succ k ih =>
    have C__law_bent := cal_mk F0 ih hm hb
    refine fn_mk F0 sc__law_bent (fun ds c p h => ?_) (fun cdv A outer s H E (hr : Room (3 + k) _) => ⟨_, (pss_cons (by exact ps_if (by exact PW.pt (by exact pw_and (by exact pt_val (by exact pe_callB (isiK K) (by rfl) z_isinstance boot_isinstance (by exact pa_cons (pv 1) (by exact pa_cons (by exact pe_bltn (v := .ty "tuple") (by rfl) z_tuple boot_tuple rfl) pa_nil)))) (by exact pw_and (by exact pt_cmpR (neK K hr.units) (pv 1) (by exact pe_tup pa_nil) (nomark _)) (by exact pw_and (by exact pt_cmpR op_gt (pv 2) pe_int (nomark _)) (by exact pw_and1 (by exact pt_cmpR op_gt (by exact pe_cal C__law_next (hr.mono (by first | decide | omega)) (by rfl) (by exact pa_cons (pv 0) (by exact pa_cons pe_int pa_nil))) pe_int (nomark _))))))) (by exact pss_cons (by exact ps_set (i := 3) sc__law_bent.nd rfl (.inl rfl) (by exact pe_cal C__law_next (hr.mono (by first | decide | omega)) (by rfl) (by exact pa_cons (pv 0) (by exact pa_cons (by exact pe_callB (lenK K) (by rfl) z_len PySem.boot_len (by exact pa_cons (pv 1) pa_nil)) pa_nil)))) (by exact pss_one (by exact ps_ret (by exact pe_op (catT K) (by exact pe_op (catT K) (by exact pe_slice (slT K) (pv 1) po_none (by exact po_some (pv 3))) (by exact pe_tup (by exact pa_cons (by exact pe_cal C__law_bent (hr.mono (by first | decide | omega)) (by rfl) (by exact pa_cons (pv 0) (by exact pa_cons (by exact pe_ix (ixs K) (pv 1) (pv 3) (fun _ _ => rfl)) (by exact pa_cons (by exact pe_op op_sub (pv 2) pe_int) pa_nil)))) pa_nil))) (by exact pe_slice (slT K) (pv 1) (by exact po_some (by exact pe_op op_add (pv 3) pe_int)) po_none))))) pss_nil) (by exact pss_cons (by exact ps_if (by exact pt_val (by exact pe_callB (isiK K) (by rfl) z_isinstance boot_isinstance (by exact pa_cons (pv 1) (by exact pa_cons (by exact pe_bltn (v := .ty "tuple") (by rfl) z_tuple boot_tuple rfl) pa_nil)))) (by exact pss_one (by exact ps_ret (by exact pe_ix (ixs K) (by exact pe_lst (by exact pa_cons (by exact pe_slice (slT K) (pv 1) (by exact po_some pe_int) po_none) (by exact pa_cons (by exact pe_op (catT K) (pv 1) (by exact pe_slice (slT K) (pv 1) (by exact po_some (by exact pe_un un_neg pe_int)) po_none)) (by exact pa_cons (by exact revT K (pv 1)) (by exact pa_cons (by exact pe_callTy (listK K) (by rfl) z_list boot_list (by exact pa_cons (pv 1) pa_nil)) (by exact pa_cons (by exact pe_cal C__law_odd (hr.mono (by first | decide | omega)) (by rfl) (by exact pa_cons (pv 0) pa_nil)) pa_nil)))))) (by exact pe_cal C__law_next (hr.mono (by first | decide | omega)) (by rfl) (by exact pa_cons (pv 0) (by exact pa_cons pe_int pa_nil))) (fun _ _ => rfl)))) pss_nil) (by exact pss_cons (by exact ps_if (by exact pt_val (by exact pe_callB (isiK K) (by rfl) z_isinstance boot_isinstance (by exact pa_cons (pv 1) (by exact pa_cons (by exact pe_bltn (v := .ty "int") (by rfl) z_int boot_int rfl) pa_nil)))) (by exact pss_one (by exact ps_ret (by exact pe_ix (ixs K) (by exact pe_lst (by exact pa_cons (by exact pe_op op_add (pv 1) pe_int) (by exact pa_cons (by exact pe_op op_sub (pv 1) pe_int) (by exact pa_cons (by exact pe_callTy call_strI (by rfl) z_str boot_str (by exact pa_cons (pv 1) pa_nil)) (by exact pa_cons (by exact pe_cmpR op_eq (pv 1) pe_int (nomark _)) (by exact pa_cons pe_int (by exact pa_cons (by exact pe_cal C__law_odd (hr.mono (by first | decide | omega)) (by rfl) (by exact pa_cons (pv 0) pa_nil)) pa_nil))))))) (by exact pe_cal C__law_next (hr.mono (by first | decide | omega)) (by rfl) (by exact pa_cons (pv 0) (by exact pa_cons pe_int pa_nil))) (fun _ _ => rfl)))) pss_nil) (by exact pss_one (by exact ps_ret (by exact pe_cal C__law_odd (hr.mono (by first | decide | omega)) (by rfl) (by exact pa_cons (pv 0) pa_nil))))))), fun ds I c R hI hS => ?_⟩)
    · obtain ⟨a, d, e, rfl, _⟩ := h
      rfl
    · obtain ⟨a, d, e, rfl, hek, hb, hz, hdp, rfl, hp⟩ := hS
      obtain ⟨a', r', e1, rfl⟩ := hI
      cases e1
      have hlf := bn_lv d hb
      have hpl : plainD d = true := valD.plain (lv_val d hlf.1)
      cases d with
      | tup xs =>
        have hz2 : szDs xs ≤ 10000 := hz
        have hl := szDs_len xs
        have hxl : ∀ x ∈ xs, lvD x = true := lvDs_iff.mp hlf.1
        have hxd : ∀ x ∈ xs, dpD x ≤ dpDs xs := fun x hx => dpDs_mem hx
        have hd1 : dpD (.tup xs) = dpDs xs + 1 := rfl
        have hs1 : szD (.tup xs) = szDs xs := rfl
        have fin : ∀ {ys : List Dt}, (∀ y ∈ ys, y ∈ xs) → szDs ys ≤ 2 * szDs xs → R (.tup ys) := fun h1 h2 => hp _ ((Sz.tup (n := 2 * szDs xs) (k := dpDs xs) (fun x hx => hxl x (h1 x hx)) h2 fun x hx => hxd x (h1 x hx)).mono (by rw [hs1]; omega) (by rw [hd1]; omega))
        refine Sv.le (sv_ifs (B := fun b => b = true → xs ≠ [] ∧ 0 < e) (c2 := 7 * k + 1) (c3 := 4) (et_and (c1 := 0) (c2 := 1) (B1 := (· = true)) (t_B (e_cb (a_cons (ev_var rfl) (a_cons ev_cls a_nil)) (cd_isi hpl (kit_tup hpl)))) (fun _ => et_and (c1 := 0) (c2 := 1) (t_test (e_op (ev_var rfl) (e_tup a_nil (by decide)) (opd_ne0 ⟨hlf.1, by rw [hs1]; omega, by omega⟩ hlf.2))) (fun h => et_and (c1 := 0) (c2 := 1) (t_test (e_op (ev_var rfl) ev_int opd_gt)) (fun h2 => et_test (P := fun d => ∃ b, d = .bl b) (ev_op (c1 := 1) (c2 := 0) (P1 := fun d => ∃ i : Int, d = .int i) (e_call (c2 := 1) (a_cons (ev_var rfl) (a_cons ev_int a_nil)) ⟨a, _, rfl, rfl⟩ ⟨a, _, rfl, by decide, by decide, rfl, fun i _ _ => ⟨i, rfl⟩⟩) ev_int fun x y ⟨i, e3⟩ e4 => by subst e3 e4; exact opd_gt.imp fun _ e => ⟨_, e⟩) fun d ⟨b, e5⟩ => ⟨b, e5, fun _ => ?_⟩) fun _ z => (by cases z)) fun _ z => (by cases z)) fun _ z => (by cases z)) (fun hh => ?_) fun _ => sv_nextS ?_) (by omega)
        · have h5 := of_decide_eq_true h2.symm
          exact ⟨fun z => (by rw [z] at h; cases h), by omega⟩
        · obtain ⟨hne, he⟩ := hh rfl
          have hpos : 0 < xs.length := List.length_pos_iff.mpr hne
          refine Sv.le (sv_seq (c1 := 7 * k + 1) (c2 := 0) (N1 := fun _ => False) ?_ fun _ h => h.elim) (by omega)
          refine Sv.le (v_set (c1 := 1) (c2 := 7 * k) (P := fun d => ∃ s : Nat, d = .int (s : Nat) ∧ s < xs.length) (e_call (c2 := 1) (a_cons (ev_var rfl) (a_cons (e_cb (a_cons (ev_var rfl) a_nil) (cd_len rfl)) a_nil)) ⟨a, _, rfl, rfl⟩ ⟨a, _, rfl, by omega, by omega, rfl, fun i i0 i1 => ⟨i.toNat, by rw [Int.toNat_of_nonneg i0], by omega⟩⟩) fun d hd => ?_) (by omega)
          obtain ⟨s, rfl, hs⟩ := hd
          have hx : xs[s]? = some xs[s] := List.getElem?_eq_getElem hs
          have hm := List.getElem_mem hs
          have hmz := szDs_mem hm
          have hmd := hxd _ hm
          refine Sv.le (sv_ret (ev_op (P1 := fun d => ∃ y, d = .tup (cutD xs none (some (s : Int)) ++ [y]) ∧ Sz (2 * szD xs[s] + 120) (dpD xs[s] + 2) y) (P2 := (· = .tup (cutD xs (some ((s : Int) + 1)) none))) (ev_op (P1 := (· = .tup (cutD xs none (some (s : Int))))) (P2 := fun d => ∃ y, d = .tup [y] ∧ Sz (2 * szD xs[s] + 120) (dpD xs[s] + 2) y) (e_slT (ev_var rfl) eo_none (o_some (ev_var rfl))) (ev_tup (ea_one (e_call (c2 := 7 * k) (P := fun y => Sz (2 * szD xs[s] + 120) (dpD xs[s] + 2) y) (a_cons (ev_var rfl) (a_cons (e_op (ev_var rfl) (ev_var rfl) (opd_ix rfl (atI_nat hx))) (a_cons (e_op (ev_var rfl) ev_int opd_sub) a_nil))) ⟨a, _, rfl, rfl⟩ ⟨a, xs[s], e - 1, by rw [show ((e : Int) - 1) = ((e - 1 : Nat) : Int) by omega], by omega, bnDs_mem hb _ hm, by omega, by omega, rfl, fun d2 h2 => h2⟩)) fun ds h => ?_) fun x y e1 e2 => ?_) (e_slT (ev_var rfl) (o_some (e_op (ev_var rfl) ev_int opd_add)) eo_none) fun x y e1 e2 => ?_)) (by omega)
          · obtain ⟨y, rfl, hy⟩ := h
            exact ⟨by show 1 ≤ sizeLine; decide, y, rfl, hy⟩
          · obtain ⟨y, rfl, hy⟩ := e2
            subst e1
            refine (opd_catT ?_).imp fun _ e => ⟨y, e, hy⟩
            have c1 := cut_len xs none (some (s : Int))
            exact Nat.le_trans (Nat.add_le_add_right c1 1) (Nat.le_trans (by omega : xs.length + 1 ≤ 10001) (by decide))
          · obtain ⟨y, rfl, hy⟩ := e1
            subst e2
            refine (opd_catT ?_).imp fun _ e => ?_
            · have c1 := cut_len xs none (some (s : Int))
              have c2 := cut_len xs (some ((s : Int) + 1)) none
              rw [List.length_append]
              exact Nat.le_trans (Nat.add_le_add (Nat.add_le_add_right c1 1) c2) (Nat.le_trans (by omega : xs.length + 1 + xs.length ≤ 20001) (by decide))
            · rw [e]
              exact hp _ ((bent_sz (k := dpDs xs) (n := 2 * szDs xs + 120) hs hxl hxd hy (Nat.le_refl _)).mono (Nat.le_refl _) (by rw [hd1]; omega))
        · refine Sv.le (v_ifs (c2 := 2) (c3 := 0) (t_B (e_cb (a_cons (ev_var rfl) (a_cons ev_cls a_nil)) (cd_isi hpl (kit_tup hpl)))) (fun _ => Sv.le (sv_retS (e_pick (n := 5) (p_cons ((e_slT (ev_var rfl) (o_some ev_int) eo_none).imp fun _ e => ?_) (p_cons ((e_op (ev_var rfl) (e_slT (ev_var rfl) (o_some (e_un ev_int und_neg)) eo_none) (opd_catT ?_)).imp fun _ e => ?_) (p_cons ((e_revT (ev_var rfl)).imp fun _ e => ?_) (p_cons ((e_cb (a_cons (ev_var rfl) a_nil) (cd_list rfl)).imp fun _ e => ?_) (p_cons (e_call (c2 := 1) (a_cons (ev_var rfl) a_nil) ⟨a, _, rfl, rfl⟩ ⟨a, rfl, rfl, fun d2 h2 => hp d2 (h2.mono (by omega) (by omega))⟩) p_nil))))) (e_call (c2 := 1) (a_cons (ev_var rfl) (a_cons ev_int a_nil)) ⟨a, _, rfl, rfl⟩ ⟨a, _, rfl, by decide, by decide, rfl, fun i i0 i1 => ⟨i, rfl, i0, i1⟩⟩) (by decide))) (by omega)) fun z => (by cases z)) (by omega)
          · rw [e]
            exact fin (fun y hy => cut_mem hy) (Nat.le_trans (cut_sz _ _ _) (by omega))
          · have c1 := cut_len xs (some (-1)) none
            exact Nat.le_trans (Nat.add_le_add_left c1 xs.length) (Nat.le_trans (by omega : xs.length + xs.length ≤ 20001) (by decide))
          · rw [e]
            refine fin (fun y hy => ?_) ?_
            · exact (List.mem_append.mp hy).elim id cut_mem
            · rw [szDs_app]
              have := cut_sz xs (some (-1)) none
              omega
          · rw [e]
            exact fin (fun y hy => List.mem_reverse.mp hy) (by rw [szDs_rev]; omega)
          · rw [e]
            exact hp _ ((Sz.lst (n := szDs xs) (k := dpDs xs) hxl (Nat.le_refl _) hxd).mono (by rw [hs1]; omega) (by rw [hd1]; omega))
      | int z =>
        have hi := of_decide_eq_true (show decide (z.natAbs < 10 ^ 50) = true from hb)
        have big : ∀ w : Int, w.natAbs ≤ z.natAbs + 1 → R (.int w) := fun w hw => hp _ (.int (Nat.lt_of_le_of_lt hw (Nat.lt_of_lt_of_le (Nat.succ_lt_succ hi) (by decide +kernel))))
        refine Sv.le (sv_ifs (B := (· = false)) (c2 := 0) (c3 := 3) (et_and (c1 := 0) (c2 := 1) (B1 := (· = false)) (t_B (e_cb (a_cons (ev_var rfl) (a_cons ev_cls a_nil)) (cd_isi hpl (kit_tup hpl)))) (fun z => (by cases z)) fun _ => rfl) (fun z => (by cases z)) fun _ => sv_nextS (v_ifs (c2 := 0) (c3 := 3) (t_B (e_cb (a_cons (ev_var rfl) (a_cons ev_cls a_nil)) (cd_isi hpl (kit_tup hpl)))) (fun z => (by cases z)) fun _ => sv_nextS (v_ifs (c2 := 2) (c3 := 1) (t_B (e_cb (a_cons (ev_var rfl) (a_cons ev_cls a_nil)) (cd_isi hpl (kit_int hpl)))) (fun _ => Sv.le (sv_retS (e_pick (n := 6) (p_cons ((e_op (ev_var rfl) ev_int opd_add).imp fun _ e => ?_) (p_cons ((e_op (ev_var rfl) ev_int opd_sub).imp fun _ e => ?_) (p_cons ((e_cb (a_cons (ev_var rfl) a_nil) (cd_strI ?_)).imp fun _ e => ?_) (p_cons ((e_op (ev_var rfl) ev_int (opd_eq rfl)).imp fun _ e => ?_) (p_cons (ev_int.imp fun _ e => ?_) (p_cons (e_call (c2 := 1) (a_cons (ev_var rfl) a_nil) ⟨a, _, rfl, rfl⟩ ⟨a, rfl, rfl, fun d2 h2 => hp d2 (h2.mono (by omega) (by omega))⟩) p_nil)))))) (e_call (c2 := 1) (a_cons (ev_var rfl) (a_cons ev_int a_nil)) ⟨a, _, rfl, rfl⟩ ⟨a, _, rfl, by decide, by decide, rfl, fun i i0 i1 => ⟨i, rfl, i0, i1⟩⟩) (by decide))) (by omega)) fun z => (by cases z)))) (by omega)
        · rw [e]
          exact big _ (by omega)
        · rw [e]
          exact big _ (by omega)
        · exact int_log (i := z) (decide_eq_true (nat50 hi))
        · rw [e]
          exact hp _ (strI_sz hi (by omega))
        · rw [e]
          exact hp _ ⟨rfl, Nat.zero_le _, Nat.zero_le _⟩
        · rw [e]
          exact hp _ ⟨by decide +kernel, Nat.zero_le _, Nat.zero_le _⟩
      | non =>
        exact Sv.le (sv_ifs (B := (· = false)) (c2 := 0) (c3 := 1) (et_and (c1 := 0) (c2 := 1) (B1 := (· = false)) (t_B (e_cb (a_cons (ev_var rfl) (a_cons ev_cls a_nil)) (cd_isi hpl (kit_tup hpl)))) (fun z => (by cases z)) fun _ => rfl) (fun z => (by cases z)) fun _ => sv_nextS (v_ifs (c2 := 0) (c3 := 1) (t_B (e_cb (a_cons (ev_var rfl) (a_cons ev_cls a_nil)) (cd_isi hpl (kit_tup hpl)))) (fun z => (by cases z)) fun _ => sv_nextS (v_ifs (c2 := 0) (c3 := 1) (t_B (e_cb (a_cons (ev_var rfl) (a_cons ev_cls a_nil)) (cd_isi hpl (kit_int hpl)))) (fun z => (by cases z)) fun _ => sv_nextS (sv_ret (e_call (c2 := 1) (a_cons (ev_var rfl) a_nil) ⟨a, _, rfl, rfl⟩ ⟨a, rfl, rfl, fun d2 h2 => hp d2 (h2.mono (by omega) (by omega))⟩))))) (by omega)
      | str z =>
        exact Sv.le (sv_ifs (B := (· = false)) (c2 := 0) (c3 := 1) (et_and (c1 := 0) (c2 := 1) (B1 := (· = false)) (t_B (e_cb (a_cons (ev_var rfl) (a_cons ev_cls a_nil)) (cd_isi hpl (kit_tup hpl)))) (fun z => (by cases z)) fun _ => rfl) (fun z => (by cases z)) fun _ => sv_nextS (v_ifs (c2 := 0) (c3 := 1) (t_B (e_cb (a_cons (ev_var rfl) (a_cons ev_cls a_nil)) (cd_isi hpl (kit_tup hpl)))) (fun z => (by cases z)) fun _ => sv_nextS (v_ifs (c2 := 0) (c3 := 1) (t_B (e_cb (a_cons (ev_var rfl) (a_cons ev_cls a_nil)) (cd_isi hpl (kit_int hpl)))) (fun z => (by cases z)) fun _ => sv_nextS (sv_ret (e_call (c2 := 1) (a_cons (ev_var rfl) a_nil) ⟨a, _, rfl, rfl⟩ ⟨a, rfl, rfl, fun d2 h2 => hp d2 (h2.mono (by omega) (by omega))⟩))))) (by omega)
      | bl _ => cases hb
      | lst _ => cases hb
      | dic => cases hb
      | ptr _ => cases hb
      | cls _ => cases hb
      | scr _ => cases hb
end
end KK
set_option Elab.async false
set_option linter.all false
set_option maxRecDepth 100000
set_option maxHeartbeats 1000000
namespace KK
open PySem PySem.Spec PyProof.Rows L2 Fw
open Evl (Ex)
theorem rep_sz {xs : List Dt} (h : ∀ x ∈ xs, Sz 6 1 x) (m k : Nat) (hk : k ≤ 7) : Sz 250 6 (.tup (cutD (List.replicate m xs).flatten none (some (k : Int)))) := by
  refine (Sz.allT (n := 6) (k := 1) (l := 7) (fun x hx => ?_) ?_).mono (by decide) (by decide)
  · obtain ⟨l, hl, hx2⟩ := List.mem_flatten.mp (cut_mem hx)
    rw [(List.mem_replicate.mp hl).2] at hx2
    exact h x hx2
  · unfold Fw.cutD
    rw [HT.sIx_none, HT.sIx_nat, List.length_take]
    omega
section
variable {P : Program} {w : World} {K : PySem.W.Frag} {mg : Str → Option Value} {base : Heap}
theorem ok_law {a0 : Addr} {fd0 : FuncData} (hsm : ∃ o, base.get? sysModules = some o) (F0 : Fun K "law" "law" s_law a0 fd0) (C__law_deck : Cal P w K mg base 1 "_law_deck" ["_law_script"] (sp__law_deck K)) (C__law_table : Cal P w K mg base 4 "_law_table" ["_law_deck_here", "_law_great_here", "_law_outlets", "_law_inlets"] (sp__law_table K)) (C__law_great : Cal P w K mg base 2 "_law_great" ["_law_deck_here"] (sp__law_great K)) (C__law_odd : Cal P w K mg base 2 "_law_odd" ["_law_deck_here"] (sp__law_odd K)) (C__law_bent : Cal P w K mg base 7 "_law_bent" ["_law_deck_here", "_law_thing", "_law_deep"] (sp__law_bent K)) (C__law_same : Cal P w K mg base 3 "_law_same" ["_law_found", "_law_due"] (sp__law_same K)) (C_is_table : Cal P w K mg base 4 "is_table" ["value"] (sp_is_table K)) (C__law_is_table : Cal P w K mg base 3 "_law_is_table" ["_law_thing"] (sp__law_is_table K)) (z_range : mg "range" = none) (z_repr : mg "repr" = none) (z_list : mg "list" = none) : FnG P w K mg base 8 a0 fd0 ["_law_script"] (lawSp K) := by
  refine funG F0 sc_law (fun vs H Q E h => ?_) (fun cdv A outer s H vs Q E hgd hr h => ?_)
  · obtain ⟨a, ns, rfl, _⟩ := h
    rfl
  · obtain ⟨s0, ns, rfl, hS, hn, hO, hq⟩ := h
    refine ⟨_, (pss_cons (by exact ps_set (i := 1) sc_law.nd rfl (.inr rfl) (by exact pe_cal C__law_deck (hr.mono (by first | decide | omega)) (by rfl) (by exact pa_cons (pv 0) pa_nil))) (by exact pss_cons (by exact ps_for PassesOwn.never rfl (by exact pi_range1 (by rfl) z_range (by exact pa_cons pe_int pa_nil)) (by exact pg_name (i := 2) sc_law.nd rfl (.inl rfl)) (by exact pss_cons (by exact ps_set (i := 3) sc_law.nd rfl (.inr rfl) (by exact pe_cal C__law_table (hr.mono (by first | decide | omega)) (by rfl) (by exact pa_cons (pv 1) (by exact pa_cons (by exact pe_cal C__law_great (hr.mono (by first | decide | omega)) (by rfl) (by exact pa_cons (pv 1) pa_nil)) (by exact pa_cons pe_int (by exact pa_cons pe_int pa_nil)))))) (by exact pss_cons (by exact ps_set (i := 4) sc_law.nd rfl (.inl rfl) (by exact pe_lst (by exact pa_cons (pv 3) (by exact pa_cons (by exact pe_slice (slT K) (by exact pe_op (repT K) (pv 3) pe_int) po_none (by exact po_some pe_int)) (by exact pa_cons (by exact pe_slice (slT K) (by exact pe_op (repT K) (pv 3) pe_int) po_none (by exact po_some pe_int)) (by exact pa_cons (by exact pe_tup (by exact pa_cons (by exact pe_op (repT K) (by exact pe_tup (by exact pa_cons pe_int pa_nil)) pe_int) pa_nil)) (by exact pa_cons (by exact pe_tup (by exact pa_cons (by exact pe_op (repT K) (by exact pe_tup (by exact pa_cons pe_int pa_nil)) pe_int) pa_nil)) (by exact pa_cons (by exact pe_tup (by exact pa_cons (by exact pe_tup pa_nil) pa_nil)) (by exact pa_cons (by exact pe_tup (by exact pa_cons (by exact pe_tup (by exact pa_cons pe_int (by exact pa_cons (by exact pe_op op_pow pe_int pe_int) pa_nil))) pa_nil)) pa_nil))))))))) (by exact pss_cons (by exact ps_set (i := 4) sc_law.nd rfl (.inl rfl) (by exact pe_op op_cat (pv 4) (by exact pe_lst (by exact pa_cons (by exact pe_tup (by exact pa_cons (by exact pe_tup (by exact pa_cons pe_int (by exact pa_cons (by exact pe_op op_add (by exact pe_op op_pow pe_int pe_int) pe_int) pa_nil))) pa_nil)) (by exact pa_cons (by exact pe_tup (by exact pa_cons (by exact pe_tup (by exact pa_cons (by exact pe_un un_neg pe_int) pa_nil)) pa_nil)) (by exact pa_cons (by exact pe_tup (by exact pa_cons (by exact pe_tup (by exact pa_cons pe_bl (by exact pa_cons pe_int pa_nil))) pa_nil)) (by exact pa_cons (by exact pe_callTy (listK K) (by rfl) z_list boot_list (by exact pa_cons (pv 3) pa_nil)) (by exact pa_cons (by exact pe_tup (by exact pa_cons (by exact pe_callTy (listK K) (by rfl) z_list boot_list (by exact pa_cons (by exact pe_ix (ixs K) (pv 3) pe_int (fun _ _ => rfl)) pa_nil)) pa_nil)) (by exact pa_cons (by exact pe_op (catT K) (pv 3) (by exact pe_tup (by exact pa_cons (by exact pe_tup (by exact pa_cons pe_int (by exact pa_cons pe_int pa_nil))) pa_nil))) pa_nil))))))))) (by exact pss_one (by exact ps_for PassesOwn.never rfl (by exact piL K (by exact pe_op op_cat (by exact pe_op op_cat (pv 4) (by exact pe_lc (own := [("_law_k", 7)]) (g := gName 7) (by rfl) sc_law.nd (by exact pi_range1 (by rfl) z_range (by exact pa_cons pe_int pa_nil)) (blkOk_by (own := [("_law_k", 7)]) (N := ["_law_script", "_law_deck_here", "_law_turn", "_law_table_here", "_law_some", "_law_thing", "_law_kept", "_law_k"]) (sc := defScope s_law) (by decide +kernel)) (fun _ _ _ _ _ => (by exact pg_name (i := 7) sc_law.nd rfl (.inl rfl))) (fun _ _ _ _ _ => pts_nil) (fun _ _ _ _ _ => (by exact pe_cal C__law_bent (hr.mono (by first | decide | omega)) (by rfl) (by exact pa_cons (pv 1) (by exact pa_cons (pv 3) (by exact pa_cons pe_int pa_nil))))))) (by exact pe_lst (by exact pa_cons (by exact pe_cal C__law_odd (hr.mono (by first | decide | omega)) (by rfl) (by exact pa_cons (pv 1) pa_nil)) pa_nil)))) (by exact pg_name (i := 5) sc_law.nd rfl (.inl rfl)) (by exact pss_cons (by exact ps_set (i := 6) sc_law.nd rfl (.inl rfl) (by exact pe_callB (reprK K hgd hr.units hsm) (by rfl) z_repr boot_repr (by exact pa_cons (pv 5) pa_nil))) (by exact pss_one (by exact ps_if (by exact PW.pt (by exact pw_or (by exact pt_not (by exact pt_val (by exact pe_cal C__law_same (hr.mono (by first | decide | omega)) (by rfl) (by exact pa_cons (by exact pe_cal C_is_table (hr.mono (by first | decide | omega)) (by rfl) (by exact pa_cons (pv 5) pa_nil)) (by exact pa_cons (by exact pe_cal C__law_is_table (hr.mono (by first | decide | omega)) (by rfl) (by exact pa_cons (pv 5) pa_nil)) pa_nil))))) (by exact pw_or1 (by exact pt_cmpR op_ne (by exact pe_callB (reprK K hgd hr.units hsm) (by rfl) z_repr boot_repr (by exact pa_cons (pv 5) pa_nil)) (pv 6) (nomark _))))) (by exact pss_one (by exact ps_ret pe_bl)) pss_nil))))))))) (by exact pss_one (by exact ps_ret pe_bl)))), ?_⟩
    refine law_run (c := 5600) hS hn hO hq (by decide) (by decide) fun a => ?_
    refine Sv.le (sv_seq (c2 := 0) (sv_for (n := 14) (cb := 400) (js := [2]) (N := fun _ => True) (i_rng (a_cons ev_int a_nil) (by decide) (by decide)) (fun its e => ?_) (fun d Δ => Δ.set 2 (some d)) (fun _ _ Δ => ∃ y0 y2 y3 y4 y5 y6 y7, Δ = [y0, some (.ptr a), y2, y3, y4, y5, y6, y7]) (fun _ _ => ⟨_, _, _, _, _, _, _, rfl⟩) (fun its k d Δ' e hk hΔ => ?_) fun _ _ _ _ => trivial) fun Δ' _ => sv_ret (ev_bl.imp fun _ e => e)) (by omega)
    · subst e
      rw [rngD_len]
      decide
    obtain ⟨y0, y2, y3, y4, y5, y6, y7, rfl⟩ := hΔ
    refine ⟨gd_name, ?_⟩
    refine Sv.le (v_set (c2 := 289) (P := fun d => ∃ n t, d = tbl t ∧ isT n t) (ev_call (c1 := 1) (c2 := 110) (Ps := fun ds => ∃ g : Int, ds = [.ptr a, .int g, .int 6, .int 6] ∧ 1 ≤ g ∧ g ≤ TOPI) (EvA.imp (ea_cons (c1 := 0) (c2 := 1) (ev_var (d := .ptr a) rfl) (ea_cons (c1 := 1) (c2 := 0) (P1 := fun d => ∃ g : Int, d = .int g ∧ 1 ≤ g ∧ g ≤ TOPI) (e_call (c2 := 1) (a_cons (ev_var rfl) a_nil) ⟨a, _, rfl, rfl⟩ ⟨a, rfl, rfl, fun g h1 h2 => ⟨g, rfl, h1, h2⟩⟩) (ea_cons ev_int (ea_cons ev_int ea_nil)))) fun ds p => ?_) fun ds h => ?_) fun d hd => ?_) (by omega)
    · obtain ⟨_, _, rfl, rfl, _, _, rfl, ⟨g, rfl, g1, g2⟩, _, _, rfl, rfl, _, _, rfl, rfl, rfl⟩ := p
      exact ⟨g, rfl, g1, g2⟩
    · obtain ⟨g, rfl, g1, g2⟩ := h
      exact ⟨⟨a, _, rfl, rfl⟩, a, g, 6, 6, rfl, g1, g2, by decide, by decide, by decide, by decide, rfl, fun n t ht => ⟨n, t, rfl, ht⟩⟩
    obtain ⟨n, t, rfl, ht⟩ := hd
    have hne := ht.ne
    obtain ⟨r0, tr, rfl⟩ : ∃ r0 tr, t = r0 :: tr := by
      cases t with
      | nil => exact absurd rfl hne
      | cons a b => exact ⟨a, b, rfl⟩
    have h0 : r0.length = n := ht.row r0 List.mem_cons_self
    have t6 := ht.le
    have hrow : ∀ x ∈ ((r0 :: tr).map fun r => vec r), Sz 6 1 x := fun x hx => by
      obtain ⟨r, hr2, rfl⟩ := List.mem_map.mp hx
      exact sz_vec ⟨ht.row r hr2, ht.lev r hr2⟩ ht.n6
    have hlx : ((r0 :: tr).map fun r => vec r).length ≤ 6 := by rw [List.length_map]; exact t6
    have hT : Sz 250 6 (tbl (r0 :: tr)) := (sz_tbl ht).mono (by decide) (by decide)
    have hR := rep_sz hrow
    have hne2 : ((r0 :: tr).map fun r => vec r) ≠ [] := List.cons_ne_nil _ _
    have hl2 : ((r0 :: tr).map fun r => vec r).length ≤ 1000 := Nat.le_trans hlx (by decide)
    have hL : Sz 250 6 (.lst ((r0 :: tr).map fun r => vec r)) := (Sz.all hrow hlx).mono (by decide) (by decide)
    have hr0 := sz_vec ⟨h0, ht.lev r0 List.mem_cons_self⟩ ht.n6
    have hL0 : Sz 250 6 (.tup [.lst (iL r0)]) := (Sz.allT (n := 6) (k := 1) (l := 1) (fun x hx => by rw [List.mem_singleton.mp hx]; exact ⟨hr0.lv, hr0.sz, hr0.dp⟩) (Nat.le_refl _)).mono (by decide) (by decide)
    have hcat : ((r0 :: tr).map fun r => vec r).length + [Dt.tup [.int 1, .int 2]].length ≤ sizeLine := Nat.le_trans (Nat.add_le_add_right hlx 1) (by decide)
    have hC : Sz 250 6 (.tup (((r0 :: tr).map fun r => vec r) ++ [Dt.tup [.int 1, .int 2]])) := (Sz.allT (n := 6) (k := 1) (l := 7) (fun x hx => by
      rcases List.mem_append.mp hx with z | z
      · exact hrow x z
      · rw [List.mem_singleton.mp z]
        exact ⟨by decide +kernel, by decide +kernel, by decide +kernel⟩) (by rw [List.length_append]; exact Nat.add_le_add_right hlx 1)).mono (by decide) (by decide)
    refine Sv.le (v_set (c2 := 289) (P := fun d => ∃ xs : List Dt, d = .lst xs ∧ xs.length = 7 ∧ ∀ x ∈ xs, Sz 250 6 x) (e_lstP (p_cons ((ev_var rfl).imp fun _ e => by rw [e]; exact hT) (p_cons ((e_slT (e_op (ev_var rfl) ev_int (opd_repT hne2 (by decide) (by decide) hl2)) eo_none (o_some ev_int)).imp fun _ e => by rw [e]; exact hR _ 6 (by decide)) (p_cons ((e_slT (e_op (ev_var rfl) ev_int (opd_repT hne2 (by decide) (by decide) hl2)) eo_none (o_some ev_int)).imp fun _ e => by rw [e]; exact hR _ 7 (by decide)) (p_cons ((e_tup (a_cons (e_op (e_tup (a_cons ev_int a_nil) (by show 1 ≤ sizeLine; decide)) ev_int (opd_repT (List.cons_ne_nil _ _) (by decide) (by decide) (by decide))) a_nil) (by show 1 ≤ sizeLine; decide)).imp fun _ e => by rw [e]; exact ⟨by decide +kernel, by decide +kernel, by decide +kernel⟩) (p_cons ((e_tup (a_cons (e_op (e_tup (a_cons ev_int a_nil) (by show 1 ≤ sizeLine; decide)) ev_int (opd_repT (List.cons_ne_nil _ _) (by decide) (by decide) (by decide))) a_nil) (by show 1 ≤ sizeLine; decide)).imp fun _ e => by rw [e]; exact ⟨by decide +kernel, by decide +kernel, by decide +kernel⟩) (p_cons ((e_tup (a_cons (e_tup a_nil (by decide)) a_nil) (by show 1 ≤ sizeLine; decide)).imp fun _ e => by rw [e]; exact ⟨by decide +kernel, by decide +kernel, by decide +kernel⟩) (p_cons ((e_tup (a_cons (e_tup (a_cons ev_int (a_cons (e_op ev_int ev_int (opd_pow ⟨by decide, by decide, by decide⟩)) a_nil)) (by show 2 ≤ sizeLine; decide)) a_nil) (by show 1 ≤ sizeLine; decide)).imp fun _ e => by rw [e]; exact ⟨by decide +kernel, by decide +kernel, by decide +kernel⟩) p_nil))))))) (by decide)) fun d hd => ?_) (by omega)
    obtain ⟨xs1, rfl, l1, x1⟩ := hd
    refine Sv.le (v_set (c2 := 289) (P := fun d => ∃ xs : List Dt, d = .lst xs ∧ xs.length = 7 + 6 ∧ ∀ x ∈ xs, Sz 250 6 x) (e_catP ((ev_var (d := .lst xs1) rfl).imp fun _ e => ⟨xs1, e, l1, x1⟩) (e_lstP (p_cons ((e_tup (a_cons (e_tup (a_cons ev_int (a_cons (e_op (e_op ev_int ev_int (opd_pow ⟨by decide, by decide, by decide⟩)) ev_int opd_add) a_nil)) (by show 2 ≤ sizeLine; decide)) a_nil) (by show 1 ≤ sizeLine; decide)).imp fun _ e => by rw [e]; exact ⟨by decide +kernel, by decide +kernel, by decide +kernel⟩) (p_cons ((e_tup (a_cons (e_tup (a_cons (e_un ev_int und_neg) a_nil) (by show 1 ≤ sizeLine; decide)) a_nil) (by show 1 ≤ sizeLine; decide)).imp fun _ e => by rw [e]; exact ⟨by decide +kernel, by decide +kernel, by decide +kernel⟩) (p_cons ((e_tup (a_cons (e_tup (a_cons ev_bl (a_cons ev_int a_nil)) (by show 2 ≤ sizeLine; decide)) a_nil) (by show 1 ≤ sizeLine; decide)).imp fun _ e => by rw [e]; exact ⟨by decide +kernel, by decide +kernel, by decide +kernel⟩) (p_cons ((e_cb (a_cons (ev_var rfl) a_nil) (cd_list rfl)).imp fun _ e => by rw [e]; exact hL) (p_cons ((e_tup (a_cons (e_cb (a_cons (e_op (ev_var rfl) ev_int (opd_ix (d := vec r0) rfl (atI_nat (j := 0) rfl))) a_nil) (cd_list rfl)) a_nil) (by show 1 ≤ sizeLine; decide)).imp fun _ e => by rw [e]; exact hL0) (p_cons ((e_op (ev_var rfl) (e_tup (a_cons (e_tup (a_cons ev_int (a_cons ev_int a_nil)) (by show 2 ≤ sizeLine; decide)) a_nil) (by show 1 ≤ sizeLine; decide)) (opd_catT hcat)).imp fun _ e => by rw [e]; exact hC) p_nil)))))) (by decide)) (by decide)) fun d hd => ?_) (by omega)
    obtain ⟨xs2, rfl, l2, x2⟩ := hd
    refine Sv.le (sv_for (n := 20) (cb := 0) (js := [5]) (ei_list (Ps := fun xs => xs.length = 13 + 6 + 1 ∧ ∀ x ∈ xs, Sz 250 6 x) (e_catP (n := 13 + 6) (m := 1) (e_catP (n := 13) (m := 6) ((ev_var (d := .lst xs2) rfl).imp fun _ e => ⟨xs2, e, l2, x2⟩) (drawP (n := 6) (e_draw (ce := 28) (n := 6) (js := [7]) (fun d Δ => Δ.set 7 (some d)) (Sz 250 6) (i_rng (n := 6) (a_cons ev_int a_nil) (by decide) (by decide)) (by rw [rngD_len]; decide) (by decide) (fun j h => h) fun d hd => ⟨gd_name, e_call (c2 := 28) (a_cons (ev_var rfl) (a_cons (ev_var rfl) (a_cons ev_int a_nil))) ⟨a, _, rfl, rfl⟩ ⟨a, tbl (r0 :: tr), 3, rfl, by decide, bn_tbl ht, ?_, ?_, rfl, fun d2 h2 => ?_⟩⟩) (by rw [rngD_len]; rfl)) (by decide)) (e_lstP (n := 1) (p_cons (e_call (c2 := 1) (a_cons (ev_var rfl) a_nil) ⟨a, _, rfl, rfl⟩ ⟨a, rfl, rfl, fun d2 h2 => h2.mono (by decide) (by decide)⟩) p_nil) (by decide)) (by decide)) fun d hd => hd) (fun its h => ?_) (fun d Δ => Δ.set 5 (some d)) (fun _ _ Δ => ∃ y0 y2 y3 y4 y5 y6 y7, Δ = [y0, some (.ptr a), y2, y3, y4, y5, y6, y7]) (fun _ _ => ⟨_, _, _, _, _, _, _, rfl⟩) (fun its k2 d2 Δ2 hits hk2 hΔ2 => ?_) fun _ _ _ h => h) (by omega)
    · exact Nat.le_trans (sz_tbl ht).sz (by decide)
    · exact Nat.le_trans (sz_tbl ht).dp (by decide)
    · have q1 := (sz_tbl ht).sz
      have q2 := (sz_tbl ht).dp
      exact h2.mono (by omega) (by omega)
    · rw [h.1]
      exact Nat.le_refl _
    · obtain ⟨y0, y2, y3, y4, y5, y6, y7, rfl⟩ := hΔ2
      have hd2 := hits.2 d2 (List.mem_of_getElem? hk2)
      have hv2 := lv_val d2 hd2.lv
      have hsm2 : Sm d2 := hd2.sm (by decide) (by decide)
      refine ⟨gd_name, ?_⟩
      refine Sv.le (v_set (c2 := 0) (P := (· = .str (toP d2).shown)) (e_cb (a_cons (ev_var rfl) a_nil) (cd_repr hsm2)) fun d hd => ?_) (by omega)
      subst hd
      refine Sv.le (v_if (c2 := 0) (c3 := 0) (t_or (t_not (t_B (e_call (c2 := 0) (a_cons (e_call (c2 := 0) (a_cons (ev_var rfl) a_nil) trivial ⟨d2, rfl, hv2, rfl⟩) (a_cons (e_call (c2 := 0) (a_cons (ev_var rfl) a_nil) trivial ⟨d2, rfl, hv2, rfl⟩) a_nil)) trivial ⟨.bl (isTblD d2), rfl, rfl, Nat.zero_lt_two, Nat.zero_le _, rfl⟩))) fun _ => t_test (e_op (e_cb (a_cons (ev_var rfl) a_nil) (cd_repr hsm2)) (ev_var rfl) (opd_ne rfl))) (fun e => v_no ?_) fun _ => sv_next.imp (fun Δ2 h => ⟨_, _, _, _, _, _, _, h⟩) fun _ h => h) (by omega)
      rw [eqS_self rfl] at e
      cases e
end
end KK
set_option Elab.async false
set_option linter.all false
set_option maxRecDepth 100000
set_option maxHeartbeats 4000000
namespace KK
open PySem PySem.Spec PyProof.Rows L2 Fw
open Evl (Ex)
theorem all_mk {l : PySem.W.OpenLaw} {w : World} {K : PySem.W.Frag} {h : Heap} {mg : Str → Option Value} {fa f1 f2 f3 f4 f5 f6 f7 f8 f9 f10 f11 f12 f13 f14 f15 f16 f17 f18 : Addr} (X : K.In h) (G : h.Ns mainGlobals mg) (hfa : mg "law" = some (.ref fa))
    {od1 an1 od2 an2 od3 an3 od4 an4 od5 an5 od6 an6 od7 an7 od8 an8 od9 an9 od10 an10 od11 an11 od12 an12 od13 an13 od14 an14 od15 an15 od16 an16 od17 an17 od18 an18 : Option Addr} {sl1 sl2 sl3 sl4 sl5 sl6 sl7 sl8 sl9 sl10 sl11 sl12 sl13 sl14 sl15 sl16 sl17 sl18 : Array (Option Value)} {oc1 kV1 dc1 pm1 cd1 ct1 oc2 kV2 dc2 pm2 cd2 ct2 oc3 kV3 dc3 pm3 cd3 ct3 oc4 kV4 dc4 pm4 cd4 ct4 oc5 kV5 dc5 pm5 cd5 ct5 oc6 kV6 dc6 pm6 cd6 ct6 oc7 kV7 dc7 pm7 cd7 ct7 oc8 kV8 dc8 pm8 cd8 ct8 oc9 kV9 dc9 pm9 cd9 ct9 oc10 kV10 dc10 pm10 cd10 ct10 oc11 kV11 dc11 pm11 cd11 ct11 oc12 kV12 dc12 pm12 cd12 ct12 oc13 kV13 dc13 pm13 cd13 ct13 oc14 kV14 dc14 pm14 cd14 ct14 oc15 kV15 dc15 pm15 cd15 ct15 oc16 kV16 dc16 pm16 cd16 ct16 oc17 kV17 dc17 pm17 cd17 ct17 oc18 kV18 dc18 pm18 cd18 ct18 : Value} {t0 t1 t2 : Tok}
    (a1 : PySem.W.nsIn K mainGlobals "is_integer" = some (some (.ref f1))) (l1 : K.lookup f1 = some ⟨oc1, od1, .func (PySem.W.fnOf "is_integer" "is_integer" (defArgs s_is_integer) (defBody s_is_integer) (defScope s_is_integer) .none kV1 dc1 pm1 an1 cd1 ct1), sl1⟩) (c1 : PySem.W.codeIn K cd1 "is_integer" = true) (k1 : PySem.W.keepIn K (.ref f1) = true)
    (a2 : PySem.W.nsIn K mainGlobals "is_level" = some (some (.ref f2))) (l2 : K.lookup f2 = some ⟨oc2, od2, .func (PySem.W.fnOf "is_level" "is_level" (defArgs s_is_level) (defBody s_is_level) (defScope s_is_level) .none kV2 dc2 pm2 an2 cd2 ct2), sl2⟩) (c2 : PySem.W.codeIn K cd2 "is_level" = true) (k2 : PySem.W.keepIn K (.ref f2) = true)
    (a3 : PySem.W.nsIn K mainGlobals "is_tuple_of" = some (some (.ref f3))) (l3 : K.lookup f3 = some ⟨oc3, od3, .func (PySem.W.fnOf "is_tuple_of" "is_tuple_of" (defArgs s_is_tuple_of) (defBody s_is_tuple_of) (defScope s_is_tuple_of) .none kV3 dc3 pm3 an3 cd3 ct3), sl3⟩) (c3 : PySem.W.codeIn K cd3 "is_tuple_of" = true) (k3 : PySem.W.keepIn K (.ref f3) = true)
    (a4 : PySem.W.nsIn K mainGlobals "are_levels" = some (some (.ref f4))) (l4 : K.lookup f4 = some ⟨oc4, od4, .func (PySem.W.fnOf "are_levels" "are_levels" (defArgs s_are_levels) (defBody s_are_levels) (defScope s_are_levels) .none kV4 dc4 pm4 an4 cd4 ct4), sl4⟩) (c4 : PySem.W.codeIn K cd4 "are_levels" = true) (k4 : PySem.W.keepIn K (.ref f4) = true)
    (a5 : PySem.W.nsIn K mainGlobals "is_table" = some (some (.ref f5))) (l5 : K.lookup f5 = some ⟨oc5, od5, .func (PySem.W.fnOf "is_table" "is_table" (defArgs s_is_table) (defBody s_is_table) (defScope s_is_table) .none kV5 dc5 pm5 an5 cd5 ct5), sl5⟩) (c5 : PySem.W.codeIn K cd5 "is_table" = true) (k5 : PySem.W.keepIn K (.ref f5) = true)
    (a6 : PySem.W.nsIn K mainGlobals "_law_deck" = some (some (.ref f6))) (l6 : K.lookup f6 = some ⟨oc6, od6, .func (PySem.W.fnOf "_law_deck" "_law_deck" (defArgs s__law_deck) (defBody s__law_deck) (defScope s__law_deck) .none kV6 dc6 pm6 an6 cd6 ct6), sl6⟩) (c6 : PySem.W.codeIn K cd6 "_law_deck" = true) (k6 : PySem.W.keepIn K (.ref f6) = true)
    (a7 : PySem.W.nsIn K mainGlobals "_law_next" = some (some (.ref f7))) (l7 : K.lookup f7 = some ⟨oc7, od7, .func (PySem.W.fnOf "_law_next" "_law_next" (defArgs s__law_next) (defBody s__law_next) (defScope s__law_next) .none kV7 dc7 pm7 an7 cd7 ct7), sl7⟩) (c7 : PySem.W.codeIn K cd7 "_law_next" = true) (k7 : PySem.W.keepIn K (.ref f7) = true)
    (a8 : PySem.W.nsIn K mainGlobals "_law_great" = some (some (.ref f8))) (l8 : K.lookup f8 = some ⟨oc8, od8, .func (PySem.W.fnOf "_law_great" "_law_great" (defArgs s__law_great) (defBody s__law_great) (defScope s__law_great) .none kV8 dc8 pm8 an8 cd8 ct8), sl8⟩) (c8 : PySem.W.codeIn K cd8 "_law_great" = true) (k8 : PySem.W.keepIn K (.ref f8) = true)
    (a9 : PySem.W.nsIn K mainGlobals "_law_level" = some (some (.ref f9))) (l9 : K.lookup f9 = some ⟨oc9, od9, .func (PySem.W.fnOf "_law_level" "_law_level" (defArgs s__law_level) (defBody s__law_level) (defScope s__law_level) .none kV9 dc9 pm9 an9 cd9 ct9), sl9⟩) (c9 : PySem.W.codeIn K cd9 "_law_level" = true) (k9 : PySem.W.keepIn K (.ref f9) = true)
    (a10 : PySem.W.nsIn K mainGlobals "_law_row" = some (some (.ref f10))) (l10 : K.lookup f10 = some ⟨oc10, od10, .func (PySem.W.fnOf "_law_row" "_law_row" (defArgs s__law_row) (defBody s__law_row) (defScope s__law_row) .none kV10 dc10 pm10 an10 cd10 ct10), sl10⟩) (c10 : PySem.W.codeIn K cd10 "_law_row" = true) (k10 : PySem.W.keepIn K (.ref f10) = true)
    (a11 : PySem.W.nsIn K mainGlobals "_law_table" = some (some (.ref f11))) (l11 : K.lookup f11 = some ⟨oc11, od11, .func (PySem.W.fnOf "_law_table" "_law_table" (defArgs s__law_table) (defBody s__law_table) (defScope s__law_table) .none kV11 dc11 pm11 an11 cd11 ct11), sl11⟩) (c11 : PySem.W.codeIn K cd11 "_law_table" = true) (k11 : PySem.W.keepIn K (.ref f11) = true)
    (a12 : PySem.W.nsIn K mainGlobals "_law_whole" = some (some (.ref f12))) (l12 : K.lookup f12 = some ⟨oc12, od12, .func (PySem.W.fnOf "_law_whole" "_law_whole" (defArgs s__law_whole) (defBody s__law_whole) (defScope s__law_whole) .none kV12 dc12 pm12 an12 cd12 ct12), sl12⟩) (c12 : PySem.W.codeIn K cd12 "_law_whole" = true) (k12 : PySem.W.keepIn K (.ref f12) = true)
    (a13 : PySem.W.nsIn K mainGlobals "_law_odd" = some (some (.ref f13))) (l13 : K.lookup f13 = some ⟨oc13, od13, .func (PySem.W.fnOf "_law_odd" "_law_odd" (defArgs s__law_odd) (defBody s__law_odd) (defScope s__law_odd) .none kV13 dc13 pm13 an13 cd13 ct13), sl13⟩) (c13 : PySem.W.codeIn K cd13 "_law_odd" = true) (k13 : PySem.W.keepIn K (.ref f13) = true)
    (a14 : PySem.W.nsIn K mainGlobals "_law_are_levels" = some (some (.ref f14))) (l14 : K.lookup f14 = some ⟨oc14, od14, .func (PySem.W.fnOf "_law_are_levels" "_law_are_levels" (defArgs s__law_are_levels) (defBody s__law_are_levels) (defScope s__law_are_levels) .none kV14 dc14 pm14 an14 cd14 ct14), sl14⟩) (c14 : PySem.W.codeIn K cd14 "_law_are_levels" = true) (k14 : PySem.W.keepIn K (.ref f14) = true)
    (a15 : PySem.W.nsIn K mainGlobals "_law_is_table" = some (some (.ref f15))) (l15 : K.lookup f15 = some ⟨oc15, od15, .func (PySem.W.fnOf "_law_is_table" "_law_is_table" (defArgs s__law_is_table) (defBody s__law_is_table) (defScope s__law_is_table) .none kV15 dc15 pm15 an15 cd15 ct15), sl15⟩) (c15 : PySem.W.codeIn K cd15 "_law_is_table" = true) (k15 : PySem.W.keepIn K (.ref f15) = true)
    (a16 : PySem.W.nsIn K mainGlobals "_law_same" = some (some (.ref f16))) (l16 : K.lookup f16 = some ⟨oc16, od16, .func (PySem.W.fnOf "_law_same" "_law_same" (defArgs s__law_same) (defBody s__law_same) (defScope s__law_same) .none kV16 dc16 pm16 an16 cd16 ct16), sl16⟩) (c16 : PySem.W.codeIn K cd16 "_law_same" = true) (k16 : PySem.W.keepIn K (.ref f16) = true)
    (a17 : PySem.W.nsIn K mainGlobals "_law_bent" = some (some (.ref f17))) (l17 : K.lookup f17 = some ⟨oc17, od17, .func (PySem.W.fnOf "_law_bent" "_law_bent" (defArgs s__law_bent) (defBody s__law_bent) (defScope s__law_bent) .none kV17 dc17 pm17 an17 cd17 ct17), sl17⟩) (c17 : PySem.W.codeIn K cd17 "_law_bent" = true) (k17 : PySem.W.keepIn K (.ref f17) = true)
    (a18 : PySem.W.nsIn K mainGlobals "law" = some (some (.ref f18))) (l18 : K.lookup f18 = some ⟨oc18, od18, .func (PySem.W.fnOf "law" "law" (defArgs s_law) (defBody s_law) (defScope s_law) .none kV18 dc18 pm18 an18 cd18 ct18), sl18⟩) (c18 : PySem.W.codeIn K cd18 "law" = true) (k18 : PySem.W.keepIn K (.ref f18) = true)
    (z_isinstance : PySem.W.nsIn K mainGlobals "isinstance" = some none)
    (z_int : PySem.W.nsIn K mainGlobals "int" = some none)
    (z_bool : PySem.W.nsIn K mainGlobals "bool" = some none)
    (z_tuple : PySem.W.nsIn K mainGlobals "tuple" = some none)
    (z_len : PySem.W.nsIn K mainGlobals "len" = some none)
    (z_all : PySem.W.nsIn K mainGlobals "all" = some none)
    (z_abs : PySem.W.nsIn K mainGlobals "abs" = some none)
    (z_range : PySem.W.nsIn K mainGlobals "range" = some none)
    (z_dict : PySem.W.nsIn K mainGlobals "dict" = some none)
    (z_str : PySem.W.nsIn K mainGlobals "str" = some none)
    (z_list : PySem.W.nsIn K mainGlobals "list" = some none)
    (z_repr : PySem.W.nsIn K mainGlobals "repr" = some none)
    (m_TOP : PySem.W.nsIn K mainGlobals "TOP" = some (some (.int 1000000000000 t0)))
    (m_MAX_OUTLETS : PySem.W.nsIn K mainGlobals "MAX_OUTLETS" = some (some (.int 6 t1)))
    (m_MAX_INLETS : PySem.W.nsIn K mainGlobals "MAX_INLETS" = some (some (.int 6 t2)))
    : ∃ fd : FuncData, (∀ (s : Shared) (v : Value), BindsTo s fd ⟨[v], []⟩ [("_law_script", v)]) ∧ ∀ base : Heap, K.In base → base.Ns mainGlobals mg → (∃ o, base.get? sysModules = some o) → FnG l.prog w K mg base 8 fa fd ["_law_script"] (lawSp K) := by
  have e := hfa.symm.trans (PySem.W.mg_of X G a18)
  cases e
  have y_isinstance := PySem.W.mg_none_of X G z_isinstance
  have y_int := PySem.W.mg_none_of X G z_int
  have y_bool := PySem.W.mg_none_of X G z_bool
  have y_tuple := PySem.W.mg_none_of X G z_tuple
  have y_len := PySem.W.mg_none_of X G z_len
  have y_all := PySem.W.mg_none_of X G z_all
  have y_abs := PySem.W.mg_none_of X G z_abs
  have y_range := PySem.W.mg_none_of X G z_range
  have y_dict := PySem.W.mg_none_of X G z_dict
  have y_str := PySem.W.mg_none_of X G z_str
  have y_list := PySem.W.mg_none_of X G z_list
  have y_repr := PySem.W.mg_none_of X G z_repr
  have x_TOP := PySem.W.mg_of X G m_TOP
  have x_MAX_OUTLETS := PySem.W.mg_of X G m_MAX_OUTLETS
  have x_MAX_INLETS := PySem.W.mg_of X G m_MAX_INLETS
  have F1 := fun_mk (st := s_is_integer) l1 c1 k1
  have b1 := F1.binds (ps := ["value"]) fun _ _ _ _ _ _ us hl => match us, hl with | [_], _ => rfl
  have F2 := fun_mk (st := s_is_level) l2 c2 k2
  have b2 := F2.binds (ps := ["value"]) fun _ _ _ _ _ _ us hl => match us, hl with | [_], _ => rfl
  have F3 := fun_mk (st := s_is_tuple_of) l3 c3 k3
  have b3 := F3.binds (ps := ["value", "many"]) fun _ _ _ _ _ _ us hl => match us, hl with | [_, _], _ => rfl
  have F4 := fun_mk (st := s_are_levels) l4 c4 k4
  have b4 := F4.binds (ps := ["value", "many"]) fun _ _ _ _ _ _ us hl => match us, hl with | [_, _], _ => rfl
  have F5 := fun_mk (st := s_is_table) l5 c5 k5
  have b5 := F5.binds (ps := ["value"]) fun _ _ _ _ _ _ us hl => match us, hl with | [_], _ => rfl
  have F6 := fun_mk (st := s__law_deck) l6 c6 k6
  have b6 := F6.binds (ps := ["_law_script"]) fun _ _ _ _ _ _ us hl => match us, hl with | [_], _ => rfl
  have F7 := fun_mk (st := s__law_next) l7 c7 k7
  have b7 := F7.binds (ps := ["_law_deck_here", "_law_many"]) fun _ _ _ _ _ _ us hl => match us, hl with | [_, _], _ => rfl
  have F8 := fun_mk (st := s__law_great) l8 c8 k8
  have b8 := F8.binds (ps := ["_law_deck_here"]) fun _ _ _ _ _ _ us hl => match us, hl with | [_], _ => rfl
  have F9 := fun_mk (st := s__law_level) l9 c9 k9
  have b9 := F9.binds (ps := ["_law_deck_here", "_law_great_here"]) fun _ _ _ _ _ _ us hl => match us, hl with | [_, _], _ => rfl
  have F10 := fun_mk (st := s__law_row) l10 c10 k10
  have b10 := F10.binds (ps := ["_law_deck_here", "_law_great_here", "_law_count"]) fun _ _ _ _ _ _ us hl => match us, hl with | [_, _, _], _ => rfl
  have F11 := fun_mk (st := s__law_table) l11 c11 k11
  have b11 := F11.binds (ps := ["_law_deck_here", "_law_great_here", "_law_outlets", "_law_inlets"]) fun _ _ _ _ _ _ us hl => match us, hl with | [_, _, _, _], _ => rfl
  have F12 := fun_mk (st := s__law_whole) l12 c12 k12
  have b12 := F12.binds (ps := ["_law_thing"]) fun _ _ _ _ _ _ us hl => match us, hl with | [_], _ => rfl
  have F13 := fun_mk (st := s__law_odd) l13 c13 k13
  have b13 := F13.binds (ps := ["_law_deck_here"]) fun _ _ _ _ _ _ us hl => match us, hl with | [_], _ => rfl
  have F14 := fun_mk (st := s__law_are_levels) l14 c14 k14
  have b14 := F14.binds (ps := ["_law_thing", "_law_count"]) fun _ _ _ _ _ _ us hl => match us, hl with | [_, _], _ => rfl
  have F15 := fun_mk (st := s__law_is_table) l15 c15 k15
  have b15 := F15.binds (ps := ["_law_thing"]) fun _ _ _ _ _ _ us hl => match us, hl with | [_], _ => rfl
  have F16 := fun_mk (st := s__law_same) l16 c16 k16
  have b16 := F16.binds (ps := ["_law_found", "_law_due"]) fun _ _ _ _ _ _ us hl => match us, hl with | [_, _], _ => rfl
  have F17 := fun_mk (st := s__law_bent) l17 c17 k17
  have b17 := F17.binds (ps := ["_law_deck_here", "_law_thing", "_law_deep"]) fun _ _ _ _ _ _ us hl => match us, hl with | [_, _, _], _ => rfl
  have F18 := fun_mk (st := s_law) l18 c18 k18
  refine ⟨PySem.W.fnOf "law" "law" (defArgs s_law) (defBody s_law) (defScope s_law) .none kV18 dc18 pm18 an18 cd18 ct18, fun s v => .of_eq rfl, fun base _ _ hsm => ?_⟩
  have C1 := cal_mk F1 (ok_is_integer (P := l.prog) (w := w) (base := base) F1 y_isinstance y_int y_bool) (PySem.W.mg_of X G a1) b1
  have C2 := cal_mk F2 (ok_is_level (P := l.prog) (w := w) (base := base) F2 C1 ⟨_, x_TOP⟩) (PySem.W.mg_of X G a2) b2
  have C3 := cal_mk F3 (ok_is_tuple_of (P := l.prog) (w := w) (base := base) F3 y_isinstance y_tuple y_len) (PySem.W.mg_of X G a3) b3
  have C4 := cal_mk F4 (ok_are_levels (P := l.prog) (w := w) (base := base) F4 C3 C2 y_all) (PySem.W.mg_of X G a4) b4
  have C5 := cal_mk F5 (ok_is_table (P := l.prog) (w := w) (base := base) F5 C4 y_all y_isinstance y_tuple y_len ⟨_, x_MAX_OUTLETS⟩ ⟨_, x_MAX_INLETS⟩) (PySem.W.mg_of X G a5) b5
  have C6 := cal_mk F6 (ok__law_deck (P := l.prog) (w := w) (base := base) F6 y_abs y_len) (PySem.W.mg_of X G a6) b6
  have C7 := cal_mk F7 (ok__law_next (P := l.prog) (w := w) (base := base) F7 y_len) (PySem.W.mg_of X G a7) b7
  have C8 := cal_mk F8 (ok__law_great (P := l.prog) (w := w) (base := base) F8 C7) (PySem.W.mg_of X G a8) b8
  have C9 := cal_mk F9 (ok__law_level (P := l.prog) (w := w) (base := base) F9 C7) (PySem.W.mg_of X G a9) b9
  have C10 := cal_mk F10 (ok__law_row (P := l.prog) (w := w) (base := base) F10 C9 y_tuple y_range) (PySem.W.mg_of X G a10) b10
  have C11 := cal_mk F11 (ok__law_table (P := l.prog) (w := w) (base := base) F11 C7 C10 y_tuple y_range) (PySem.W.mg_of X G a11) b11
  have C12 := cal_mk F12 (ok__law_whole (P := l.prog) (w := w) (base := base) F12 y_isinstance y_int y_bool) (PySem.W.mg_of X G a12) b12
  have C13 := cal_mk F13 (ok__law_odd (P := l.prog) (w := w) (base := base) F13 C7) (PySem.W.mg_of X G a13) b13
  have C14 := cal_mk F14 (ok__law_are_levels (P := l.prog) (w := w) (base := base) F14 C12 y_isinstance y_tuple y_len) (PySem.W.mg_of X G a14) b14
  have C15 := cal_mk F15 (ok__law_is_table (P := l.prog) (w := w) (base := base) F15 C14 y_isinstance y_tuple y_len) (PySem.W.mg_of X G a15) b15
  have C16 := cal_mk F16 (rec__law_same (P := l.prog) (w := w) (base := base) F16 (PySem.W.mg_of X G a16) b16 y_isinstance y_dict y_str y_tuple y_list y_int y_len y_bool y_range 2) (PySem.W.mg_of X G a16) b16
  have C17 := cal_mk F17 (rec__law_bent (P := l.prog) (w := w) (base := base) F17 (PySem.W.mg_of X G a17) b17 C13 C7 y_isinstance y_tuple y_int y_len y_list y_str 4) (PySem.W.mg_of X G a17) b17
  exact ok_law (P := l.prog) (w := w) (base := base) hsm F18 C6 C11 C8 C13 C17 C16 C5 C15 y_range y_repr y_list
end KK
open PySem PySem.W PyProof.Rows
set_option maxHeartbeats 0 in
theorem PySem.Challenge.cw_widthmix_k02_tables_or_not_holds : PySem.Challenge.rw_widthmix_k02_tables_or_not.Holds := by
  w_on; o_law; k_head; (case hw => w_witness2)
  k_fill
  refine Fw.walkG (l := PySem.Challenge.rw_widthmix_k02_tables_or_not) (k := 8) (x := "_law_script") rfl rfl ⟨rfl, by decide, by decide⟩ (by decide +kernel) (fun w h Y => PySem.W.kIn_of Y) ?F
  case F =>
    intro w mg fa h KX G hmg
    refine' KK.all_mk KX G hmg ?a1 ?l1 ?c1 ?k1 ?a2 ?l2 ?c2 ?k2 ?a3 ?l3 ?c3 ?k3 ?a4 ?l4 ?c4 ?k4 ?a5 ?l5 ?c5 ?k5 ?a6 ?l6 ?c6 ?k6 ?a7 ?l7 ?c7 ?k7 ?a8 ?l8 ?c8 ?k8 ?a9 ?l9 ?c9 ?k9 ?a10 ?l10 ?c10 ?k10 ?a11 ?l11 ?c11 ?k11 ?a12 ?l12 ?c12 ?k12 ?a13 ?l13 ?c13 ?k13 ?a14 ?l14 ?c14 ?k14 ?a15 ?l15 ?c15 ?k15 ?a16 ?l16 ?c16 ?k16 ?a17 ?l17 ?c17 ?k17 ?a18 ?l18 ?c18 ?k18 ?z_isinstance ?z_int ?z_bool ?z_tuple ?z_len ?z_all ?z_abs ?z_range ?z_dict ?z_str ?z_list ?z_repr ?m_TOP ?m_MAX_OUTLETS ?m_MAX_INLETS
    (case a1 => k_is); (case l1 => k_is); (case c1 => k_is); (case k1 => k_is); (case a2 => k_is); (case l2 => k_is); (case c2 => k_is); (case k2 => k_is); (case a3 => k_is); (case l3 => k_is); (case c3 => k_is); (case k3 => k_is); (case a4 => k_is); (case l4 => k_is); (case c4 => k_is); (case k4 => k_is); (case a5 => k_is); (case l5 => k_is); (case c5 => k_is); (case k5 => k_is); (case a6 => k_is); (case l6 => k_is); (case c6 => k_is); (case k6 => k_is); (case a7 => k_is); (case l7 => k_is); (case c7 => k_is); (case k7 => k_is); (case a8 => k_is); (case l8 => k_is); (case c8 => k_is); (case k8 => k_is); (case a9 => k_is); (case l9 => k_is); (case c9 => k_is); (case k9 => k_is); (case a10 => k_is); (case l10 => k_is); (case c10 => k_is); (case k10 => k_is); (case a11 => k_is); (case l11 => k_is); (case c11 => k_is); (case k11 => k_is); (case a12 => k_is); (case l12 => k_is); (case c12 => k_is); (case k12 => k_is); (case a13 => k_is); (case l13 => k_is); (case c13 => k_is); (case k13 => k_is); (case a14 => k_is); (case l14 => k_is); (case c14 => k_is); (case k14 => k_is); (case a15 => k_is); (case l15 => k_is); (case c15 => k_is); (case k15 => k_is); (case a16 => k_is); (case l16 => k_is); (case c16 => k_is); (case k16 => k_is); (case a17 => k_is); (case l17 => k_is); (case c17 => k_is); (case k17 => k_is); (case a18 => k_is); (case l18 => k_is); (case c18 => k_is); (case k18 => k_is); (case z_isinstance => k_is); (case z_int => k_is); (case z_bool => k_is); (case z_tuple => k_is); (case z_len => k_is); (case z_all => k_is); (case z_abs => k_is); (case z_range => k_is); (case z_dict => k_is); (case z_str => k_is); (case z_list => k_is); (case z_repr => k_is); (case m_TOP => k_is); (case m_MAX_OUTLETS => k_is); (case m_MAX_INLETS => k_is)
