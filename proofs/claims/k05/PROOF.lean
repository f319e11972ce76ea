import PyProof.Rows.All
import Wide.All
import OpenK.AllK
import Wide.FinOn
import HandS.ForMost
import HandS.IsInst
import HandS.StrMore
import HandS.SetKeys
import HandS.Property
import HandS.Defaults
import HandS.Zip
import HandS.Star
import HandS.Exc
import HandS.WordsExc
import HandS.Walk
import HandS.FStr
import KE.GoesEnum
import HandS.Head0
import HandS.Head1
import HandS.Head2
import HandS.HeadEnd
import HandS.HeadHook1
import HandS.HeadHook2
import PySem.Challenge.RW_labelframes_k05_tables_of_frames
set_option Elab.async false
set_option linter.all false
set_option maxRecDepth 100000
set_option maxHeartbeats 4000000
namespace Z
open PySem PySem.Spec PyProof.Rows L2

theorem same_new {H : Hp} {p : Addr} {o : HO} (h : H p = none) : Same H (upd H p o) := fun b u e => by
  rw [upd_ne (ne_of_none e h)]; exact e
theorem same_t {K : PySem.W.Frag} {H H' : Hp} {a : Addr} {xs : List V} (e : Same H H') (h : SqT K H a xs) : SqT K H' a xs := by
  rcases h with r | r
  · rcases r with r | ⟨o, r⟩
    · exact .inl (.inl (e _ _ r))
    · exact .inl (.inr ⟨o, e _ _ r⟩)
  · exact .inr r

/-! a call of an own def, by its name -/
structure Kn (P : Program) (w : World) (K : PySem.W.Frag) (mg : Str → Option Value) (base : Heap) (CX : CXT) (x : Str) (k : Nat) (ps : List Str) (dvs : List V) (sp : Sp) : Prop where
  ex : ∃ f fd ds, FnOk P w K mg base CX k f fd ps sp ∧ mg x = some (.ref f) ∧ PySem.W.keepIn K (.ref f) = true ∧ Binds K fd ps ds ∧ Vals dvs ds
section
variable {X : Cx} {CX : CXT} {x : Str} {k j : Nat} {ps : List Str} {dvs : List V} {sp : Sp} {e : Expr} {es : List Expr} {t : TA} {p pos : Pos} {E : XK}
theorem pe_own (F : Kn X.prog X.w X.K X.mg X.base CX x k ps dvs sp) (hr : Room j X.A) (hkj : k ≤ j) (hx : Passes CX X E) (ha : PA X (e :: es) t) (hg : Gl X x := by rfl) (hdb : (x == ("__debug__" : Str)) = false := by decide)
    (he : starEach (e :: es) X.env = (false, eval e X.env) :: starEach es X.env := by rfl) (hpl : (backTo pos (starEach es X.env)).any (·.1) = false := by rfl) :
    PE X (.Call (.Name x p) (e :: es) [] pos) (tCall sp dvs E t) := by
  obtain ⟨f, fd, ds, F1, m, kp, b, vd⟩ := F.ex
  exact pe_call F1 (hr.mono hkj) hg m kp b vd hx ha hdb he hpl
end
/-! str * int -/
def rMulS : R2 := fun x y H Q => ∃ (z : Str) (n : Int), x = .str z ∧ y = .int n ∧ MulOk z n ∧ Q (.str (Txt.mul z n)) H
theorem op_mul_str {X : Cx} : OpR X (binaryOp .Mult) rMulS := by
  intro pins s σ H x y v u Q I rx ry h
  obtain ⟨z, n, rfl, rfl, hok, hq⟩ := h
  obtain ⟨t, rfl⟩ := rx
  obtain ⟨t', rfl⟩ := ry
  exact PySem.SB.mul hok fun t2 k => ⟨V.str (Txt.mul z n), H, I.tok k, ⟨t2, rfl⟩, hq⟩

/-! the pool: a list of three ints that calls may change -/
def PoolP (p : Addr) (h : Heap) : Prop := ∃ (i j k : Int) (its : List Value) (n : Nat), -(2 ^ 64) < i ∧ i < 2 ^ 64 ∧ Vals [.int i, .int j, .int k] its ∧ h.get? p = some { cls := .type "list", data := .seq its.toArray n }
def Pool (p : Addr) : HO := .ext (PoolP p)
theorem pool_ok {P : Program} {w : World} {H : Hp} {h : Heap} {p : Addr} (x : PoolP p h) : ObjOk P w H h p (Pool p) := by
  refine ⟨x, ?_, fun h1 h2 y k => ?_⟩
  · obtain ⟨i, j, k, its, n, _, _, _, e⟩ := x; exact ⟨_, e⟩
  · obtain ⟨i, j, k', its, n, a, b, c, e⟩ := y; exact ⟨i, j, k', its, n, a, b, c, k _ e⟩
theorem hok_pool_in {P : Program} {w : World} {H : Hp} {h : Heap} {p : Addr} (x : HOk P w H h) (e : H p = some (Pool p)) :
    ∃ i j k : Int, -(2 ^ 64) < i ∧ i < 2 ^ 64 ∧ HOk P w (upd H p (.lst [.int i, .int j, .int k])) h := by
  obtain ⟨⟨i, j, k, its, n, a, b, r, g⟩, _, _⟩ := x p _ e
  refine ⟨i, j, k, a, b, fun c u q => ?_⟩
  by_cases hc : c = p
  · subst hc; rw [upd_same] at q; cases q
    exact ⟨by show 3 ≤ sizeLine; decide, its, n, r, g⟩
  · rw [upd_ne hc] at q
    refine (x c u q).stay (fun b' v _ z => z) (fun b' z => ?_) fun b' xs z => ?_
    · rw [upd_ne (fun y => by subst y; rw [e] at z; cases z)]; exact z
    · rw [upd_ne (fun y => by subst y; rw [e] at z; cases z)]; exact z
theorem hok_pool_out {P : Program} {w : World} {H : Hp} {h : Heap} {p : Addr} {i j k : Int} (x : HOk P w H h) (e : H p = some (.lst [.int i, .int j, .int k])) (a : -(2 ^ 64) < i) (b : i < 2 ^ 64) : HOk P w (upd H p (Pool p)) h := by
  intro c u q
  by_cases hc : c = p
  · subst hc; rw [upd_same] at q; cases q
    obtain ⟨_, its, n, r, g⟩ := x c _ e
    exact pool_ok ⟨i, j, k, its, n, a, b, r, g⟩
  · rw [upd_ne hc] at q
    refine (x c u q).stay (fun b' v _ z => z) (fun b' z => ?_) fun b' xs z => ?_
    · rw [upd_ne (fun y => by subst y; rw [e] at z; cases z)]; exact z
    · rw [upd_ne (fun y => by subst y; rw [e] at z; cases z)]; exact z
/-- a def that reads and writes the pool as a list, told of the pool as a pool -/
theorem FnOk.pool {P : Program} {w : World} {K : PySem.W.Frag} {mg : Str → Option Value} {base : Heap} {k : Nat} {f : Addr} {fd : FuncData} {ps : List Str} {sp sp' : Sp}
    (F : FnOk P w K mg base CX0 k f fd ps sp)
    (h : ∀ vs H Q E, sp' vs H Q E → ∃ p, H p = some (Pool p) ∧ ∀ i j k : Int, -(2 ^ 64) < i → i < 2 ^ 64 → sp vs (upd H p (.lst [.int i, .int j, .int k]))
      (fun v H1 => ∃ i j k : Int, -(2 ^ 64) < i ∧ i < 2 ^ 64 ∧ H1 p = some (.lst [.int i, .int j, .int k]) ∧ Q v (upd H1 p (Pool p))) E) : FnOk P w K mg base CX0 k f fd ps sp' := by
  refine ⟨fun vs H Q E q => ?_, fun A outer s H args us vs Q E hr e0 hb hv q => ?_⟩
  · obtain ⟨p, _, z⟩ := h vs H Q E q
    exact F.len _ _ _ _ (z 0 0 0 (by decide) (by decide))
  · obtain ⟨p, hp, z⟩ := h vs H Q E q
    obtain ⟨i, j, k', a, b, hok⟩ := hok_pool_in e0.hok hp
    have nf : ∀ c, H c = none → upd H p (.lst [.int i, .int j, .int k']) c = none := fun c e => by
      rw [upd_ne (fun y => by subst y; rw [hp] at e; cases e)]; exact e
    have e1 : Env0 P w K mg base A outer s (upd H p (.lst [.int i, .int j, .int k'])) :=
      { frames := e0.frames, mod := e0.mod, bs := fun c o e => ⟨(e0.bs c o e).1, nf _ (e0.bs c o e).2⟩, bsz := e0.bsz, funs := e0.funs, frf := fun c e => nf _ (e0.frf c e), hok := hok, bare := e0.bare }
    refine codeAny_mono (F.run A outer s _ args us vs _ E hr e1 hb hv (z i j k' a b)) fun r s' hq => ?_
    cases r with
    | error er => exact hq
    | ok fl =>
      cases fl with
      | ret u =>
        obtain ⟨v, H1, o1, o2, un, hk, rv, i1, j1, k1, a1, b1, h1, qq⟩ := hq
        refine ⟨v, _, o1, o2, ?_, hok_pool_out hk h1 a1 b1, rv, qq⟩
        have np : ∀ c, H c = none → c ≠ p := fun c e y => by subst y; rw [hp] at e; cases e
        refine { keep := fun c o e n m m2 => un.keep c o e (nf c n) m m2, slot := fun c o e n m m2 => un.slot c o e (nf c n) m m2, free := fun c o e n m => ?_, there := fun c o e m => un.there c o e m, tups := fun c xs e => ?_, frzs := fun c o u e => ?_, tbls := fun c xs e => ?_ }
        · rw [upd_ne (np c n)]; exact un.free c o e (nf c n) m
        · have hc : c ≠ p := fun y => by subst y; rw [hp] at e; cases e
          rw [upd_ne hc]; exact un.tups c xs (by rw [upd_ne hc]; exact e)
        · have hc : c ≠ p := fun y => by subst y; rw [hp] at e; cases e
          rw [upd_ne hc]; exact un.frzs c o u (by rw [upd_ne hc]; exact e)
        · have hc : c ≠ p := fun y => by subst y; rw [hp] at e; cases e
          rw [upd_ne hc]; exact un.tbls c xs (by rw [upd_ne hc]; exact e)
      | next => exact hq
      | brk => exact hq
      | cont => exact hq
/-- a def that hands back such a list, told of it as a pool -/
theorem FnOk.poolNew {P : Program} {w : World} {K : PySem.W.Frag} {mg : Str → Option Value} {base : Heap} {k : Nat} {f : Addr} {fd : FuncData} {ps : List Str} {sp sp' : Sp}
    (F : FnOk P w K mg base CX0 k f fd ps sp)
    (h : ∀ vs H Q E, sp' vs H Q E → sp vs H (fun v H1 => ∃ p, ∃ i j k : Int, -(2 ^ 64) < i ∧ i < 2 ^ 64 ∧ H p = none ∧ H1 p = some (.lst [.int i, .int j, .int k]) ∧ Q v (upd H1 p (Pool p))) E) : FnOk P w K mg base CX0 k f fd ps sp' := by
  refine ⟨fun vs H Q E q => F.len _ _ _ _ (h vs H Q E q), fun A outer s H args us vs Q E hr e0 hb hv q => ?_⟩
  refine codeAny_mono (F.run A outer s _ args us vs _ E hr e0 hb hv (h vs H Q E q)) fun r s' hq => ?_
  cases r with
  | error er => exact hq
  | ok fl =>
    cases fl with
    | ret u =>
      obtain ⟨v, H1, o1, o2, un, hk, rv, p, i1, j1, k1, a1, b1, h0, h1, qq⟩ := hq
      refine ⟨v, _, o1, o2, ?_, hok_pool_out hk h1 a1 b1, rv, qq⟩
      refine { keep := fun c o e n m m2 => un.keep c o e n m m2, slot := fun c o e n m m2 => un.slot c o e n m m2, free := fun c o e n m => ?_, there := fun c o e m => un.there c o e m, tups := fun c xs e => ?_, frzs := fun c o u e => ?_, tbls := fun c xs e => ?_ }
      · have hc : c ≠ p := fun y => by
          subst y
          have z := un.free c o e n m
          rw [h1] at z; cases z
        rw [upd_ne hc]; exact un.free c o e n m
      · have hc : c ≠ p := fun y => by subst y; rw [h0] at e; cases e
        rw [upd_ne hc]; exact un.tups c xs e
      · have hc : c ≠ p := fun y => by subst y; rw [h0] at e; cases e
        rw [upd_ne hc]; exact un.frzs c o u e
      · have hc : c ≠ p := fun y => by subst y; rw [h0] at e; cases e
        rw [upd_ne hc]; exact un.tbls c xs e
    | next => exact hq
    | brk => exact hq
    | cont => exact hq
end Z
set_option Elab.async false
set_option linter.all false
set_option maxRecDepth 100000
set_option maxHeartbeats 4000000
namespace Z
open PySem PySem.Spec PyProof.Rows L2

/-- all but lists stand -/
def SameT (H H' : Hp) : Prop := ∀ b o, (∀ xs, o ≠ HO.lst xs) → H b = some o → H' b = some o
theorem Same.t {H H' : Hp} (e : Same H H') : SameT H H' := fun b o _ h => e b o h
theorem SameT.trans {H H1 H2 : Hp} (a : SameT H H1) (b : SameT H1 H2) : SameT H H2 := fun c o n h => b c o n (a c o n h)
theorem SameT.refl (H : Hp) : SameT H H := fun _ _ _ h => h
theorem sameT_list {H : Hp} {D : Addr} {xs ys : List V} (h : H D = some (.lst xs)) : SameT H (upd H D (.lst ys)) := fun b o n q => by
  by_cases e : b = D
  · subst e; rw [h] at q; cases q; exact absurd rfl (n xs)
  · rw [upd_ne e]; exact q
theorem sameT_t {K : PySem.W.Frag} {H H' : Hp} {a : Addr} {xs : List V} (e : SameT H H') (h : SqT K H a xs) : SqT K H' a xs := by
  rcases h with r | r
  · rcases r with r | ⟨o, r⟩
    · exact .inl (.inl (e _ _ (by intro _ q; cases q) r))
    · exact .inl (.inr ⟨o, e _ _ (by intro _ q; cases q) r⟩)
  · exact .inr r
theorem same_app {H H1 : Hp} {D : Addr} {ys : List V} (e : Same H H1) (h : H D = none) : Same H (upd H1 D (.lst ys)) := fun b o q => by
  rw [upd_ne (ne_of_none q h)]; exact e b o q

/-- a comprehension whose element only adds to the heap -/
theorem lc_ok {J : It} {n : Nat} {G : Hp → Prop} {Y : Nat → Hp → V → Hp → Prop} (w : Walk J n G Y) {g : TG} {te : TE} {vs : List Nat} {σ : L2.St} {H1 : Hp} {D : Addr} {Qd : Hp → Prop}
    (R : Nat → V → Hp → Prop) (hD : H1 D = none) (hn : n < sizeLine) (hG : ∀ H, Same H1 H → G H) (hR : ∀ i y H H', i < n → SameT H H' → R i y H → R i y H')
    (hY : ∀ i H x H', Y i H x H' → Same H H')
    (hs : ∀ i x H H', i < n → Same H1 H → Y i H x H' → ∀ Q : VK, (∀ y H4, Same H' H4 → R i y H4 → Q y H4) → g x (wipe σ vs) H' fun σ2 H2 => wipe σ2 vs = wipe σ vs ∧ te σ2 H2 Q)
    (hd : ∀ H acc, Same H1 H → H D = some (.lst acc) → acc.length = n → (∀ i y, acc[i]? = some y → R i y H) → Qd H) :
    ∃ W : Nat → Nat → Hp → Prop, (∃ m, W 0 m (upd H1 D (.lst []))) ∧ ∀ i m H, W i m H → (J.stop i H ∧ Qd H) ∨ (J.go i H ∧ ∃ Nx : Hp → Prop, (∀ H', Nx H' → ∃ m', m' < m ∧ W (i + 1) m' H') ∧ ∀ x H', J.yld i H x H' → g x (wipe σ vs) H' fun σ2 H2 => wipe σ2 vs = wipe σ vs ∧ tYes σ2 H2 fun b H3 =>
      if b = true then te σ2 H3 fun y H4 => ∃ acc, H4 D = some (.lst acc) ∧ acc.length < sizeLine ∧ Nx (upd H4 D (.lst (acc ++ [y]))) else Nx H3) := by
  refine lc_it w (fun i H => i ≤ n ∧ Same H1 H ∧ ∃ acc, H D = some (.lst acc) ∧ acc.length = i ∧ ∀ j y, acc[j]? = some y → R j y H) ⟨Nat.zero_le _, same_new hD, [], upd_same, rfl, fun j y q => by simp at q⟩ (fun i H _ q => hG H q.2.1) ?_ ?_
  · rintro i x H H' hi ⟨_, s1, acc, hacc, hl, ha⟩ y1
    have sY := hY i H x H' y1
    have := hs i x H H' hi s1 y1 (fun y H4 => ∃ acc, H4 D = some (.lst acc) ∧ acc.length < sizeLine ∧ (i + 1 ≤ n ∧ Same H1 (upd H4 D (.lst (acc ++ [y]))) ∧ ∃ acc', (upd H4 D (.lst (acc ++ [y]))) D = some (.lst acc') ∧ acc'.length = i + 1 ∧ ∀ j y', acc'[j]? = some y' → R j y' (upd H4 D (.lst (acc ++ [y])))))
      (fun y H4 s4 r4 => ⟨acc, s4 _ _ (sY _ _ hacc), by omega, hi, same_app ((s1.trans sY).trans s4) hD, acc ++ [y], upd_same, by simp [hl], fun j y' q => ?_⟩)
    · unfold tYes
      simp only [↓reduceIte]
      exact this
    · have h4 : H4 D = some (.lst acc) := s4 _ _ (sY _ _ hacc)
      have sT : SameT H4 (upd H4 D (.lst (acc ++ [y]))) := sameT_list h4
      by_cases hj : j < acc.length
      · rw [List.getElem?_append_left hj] at q
        exact hR j y' _ _ (by omega) (((Same.t sY).trans (Same.t s4)).trans sT) (ha j y' q)
      · have hj2 : j = acc.length := by
          have := (List.getElem?_eq_some_iff.mp q).1
          simp at this; omega
        subst hj2
        rw [List.getElem?_append_right (Nat.le_refl _)] at q
        simp at q
        subst q
        rw [hl]
        exact hR i y _ _ hi sT r4
  · rintro H ⟨_, s1, acc, hacc, hl, ha⟩
    exact hd H acc s1 hacc hl ha

/-! ### data -/
mutual
inductive Da (K : PySem.W.Frag) (H : Hp) : V → PyData → Prop
  | non : Da K H .non .none
  | bl (b : Bool) : Da K H (.bl b) (.bool b)
  | int (i : Int) : Da K H (.int i) (.int i)
  | str (x : Str) : x.length ≤ 1000000 → Da K H (.str x) (.str x)
  | lst {a : Addr} {xs : List V} {ds : List PyData} : SqL K H a xs → DaL K H xs ds → Da K H (.ref a) (.list ds)
  | tup {a : Addr} {xs : List V} {ds : List PyData} : SqT K H a xs → DaL K H xs ds → Da K H (.ref a) (.tuple ds)
  | dic {a : Addr} : H a = some (.dK []) → Da K H (.ref a) (.dict [])
inductive DaL (K : PySem.W.Frag) (H : Hp) : List V → List PyData → Prop
  | nil : DaL K H [] []
  | cons {v : V} {vs : List V} {d : PyData} {ds : List PyData} : Da K H v d → DaL K H vs ds → DaL K H (v :: vs) (d :: ds)
end
section
variable {K : PySem.W.Frag} {H H' : Hp}
mutual
theorem Da.mono (e : Same H H') : ∀ {v : V} {d : PyData}, Da K H v d → Da K H' v d
  | _, _, .non => .non
  | _, _, .bl b => .bl b
  | _, _, .int i => .int i
  | _, _, .str x h => .str x h
  | _, _, .lst h t => .lst (Same.seq e h) (DaL.mono e t)
  | _, _, .tup h t => .tup (same_t e h) (DaL.mono e t)
  | _, _, .dic h => .dic (e _ _ h)
theorem DaL.mono (e : Same H H') : ∀ {vs : List V} {ds : List PyData}, DaL K H vs ds → DaL K H' vs ds
  | _, _, .nil => .nil
  | _, _, .cons h t => .cons (Da.mono e h) (DaL.mono e t)
end
theorem DaL.length : ∀ {vs : List V} {ds : List PyData}, DaL K H vs ds → vs.length = ds.length
  | _, _, .nil => rfl
  | _, _, .cons _ t => by rw [List.length_cons, List.length_cons, DaL.length t]
theorem DaL.get : ∀ {vs : List V} {ds : List PyData} {i : Nat} {v : V}, DaL K H vs ds → vs[i]? = some v → ∃ d, ds[i]? = some d ∧ Da K H v d
  | _, _, _, _, .nil, e => by simp at e
  | _, _, 0, _, .cons h _, e => by simp at e; subst e; exact ⟨_, rfl, h⟩
  | _, _, i + 1, _, .cons _ t, e => by
    obtain ⟨d, h1, h2⟩ := DaL.get (i := i) t (by simpa using e)
    exact ⟨d, by simpa using h1, h2⟩
theorem DaL.get' : ∀ {vs : List V} {ds : List PyData} {i : Nat} {d : PyData}, DaL K H vs ds → ds[i]? = some d → ∃ v, vs[i]? = some v ∧ Da K H v d
  | _, _, _, _, .nil, e => by simp at e
  | _, _, 0, _, .cons h _, e => by simp at e; subst e; exact ⟨_, rfl, h⟩
  | _, _, i + 1, _, .cons _ t, e => by
    obtain ⟨d, h1, h2⟩ := DaL.get' (i := i) t (by simpa using e)
    exact ⟨d, by simpa using h1, h2⟩
theorem DaL.of : ∀ {vs : List V} {ds : List PyData}, vs.length = ds.length → (∀ (i : Nat) v d, vs[i]? = some v → ds[i]? = some d → Da K H v d) → DaL K H vs ds
  | [], [], _, _ => .nil
  | [], _ :: _, h, _ => by simp at h
  | _ :: _, [], h, _ => by simp at h
  | v :: vs, d :: ds, h, f => .cons (f 0 v d rfl rfl) (DaL.of (by simpa using h) fun i v d a b => f (i + 1) v d (by simpa using a) (by simpa using b))
/-- no lists, no dicts within: what tuples and scalars tell -/
def pureD : PyData → Bool
  | .list _ => false
  | .dict _ => false
  | .tuple ds => pureL ds
  | _ => true
where pureL : List PyData → Bool
  | [] => true
  | d :: ds => pureD d && pureL ds
mutual
theorem Da.monoT (e : SameT H H') : ∀ {v : V} {d : PyData}, pureD d = true → Da K H v d → Da K H' v d
  | _, _, _, .non => .non
  | _, _, _, .bl b => .bl b
  | _, _, _, .int i => .int i
  | _, _, _, .str x h => .str x h
  | _, _, p, .lst h t => by simp [pureD] at p
  | _, _, p, .tup h t => .tup (sameT_t e h) (DaL.monoT e (by simpa [pureD] using p) t)
  | _, _, p, .dic h => by simp [pureD] at p
theorem DaL.monoT (e : SameT H H') : ∀ {vs : List V} {ds : List PyData}, pureD.pureL ds = true → DaL K H vs ds → DaL K H' vs ds
  | _, _, _, .nil => .nil
  | _, _, p, .cons h t => by
    simp only [pureD.pureL, Bool.and_eq_true] at p
    exact .cons (Da.monoT e p.1 h) (DaL.monoT e p.2 t)
end
/-- the type's name -/
def tyD : PyData → String
  | .none => "NoneType" | .bool _ => "bool" | .int _ => "int" | .str _ => "str" | .list _ => "list" | .tuple _ => "tuple" | .dict _ => "dict"
theorem Da.ty {v : V} {d : PyData} (h : Da K H v d) : TyX K H v (.type (tyD d)) := by
  cases h with
  | non => exact .base .non
  | bl b => exact .base (.bl b)
  | int i => exact .base (.int i)
  | str x _ => exact .base (.str x)
  | lst h t =>
    rcases h with (h | ⟨o, h⟩) | ⟨o, its, n, h1, h2, _⟩
    · exact .base (.lst h)
    · exact .base (.frz h)
    · exact .kList h1 h2
  | tup h t =>
    rcases h with (h | ⟨o, h⟩) | ⟨o, its, n, h1, h2, _⟩
    · exact .base (.tup h)
    · exact .fTuple h
    · exact .kTuple h1 h2
  | dic h => exact .base (.dK h)
/-- isinstance of data -/
def isD (d : PyData) (T : String) : Bool := tyD d == T || (tyD d == "bool" && T == "int")
def tys : List String := ["NoneType", "bool", "int", "str", "list", "tuple", "dict"]
theorem kit_all : (tys.all fun a => ["int", "str", "bool", "tuple", "list", "dict"].all fun b => kitB a b == some (a == b || (a == "bool" && b == "int"))) = true := by decide +kernel
theorem tyD_mem (d : PyData) : tyD d ∈ tys := by cases d <;> simp [tyD, tys]
theorem kit_D (d : PyData) (T : String) (hT : T ∈ ["int", "str", "bool", "tuple", "list", "dict"]) : PySem.W.kitOne K (.type (tyD d)) (.type T) = some (isD d T) :=
  kit_ty (eq_of_beq (List.all_eq_true.mp (List.all_eq_true.mp kit_all _ (tyD_mem d)) T hT))
theorem isi_D {v : V} {d : PyData} {T : String} {Q : VK} (h : Da K H v d) (hT : T ∈ ["int", "str", "bool", "tuple", "list", "dict"]) (q : Q (.bl (isD d T)) H) : rIsi K [v, .ty T] H Q :=
  ⟨_, _, _, _, _, rfl, .ty T, h.ty, kit_D d T hT, q⟩
end
end Z
set_option Elab.async false
set_option linter.all false
set_option maxRecDepth 100000
set_option maxHeartbeats 4000000
/-! the rules whose reading speaks of the written part, with that part as a letter of its own (in a comprehension's block it must not hang on the block) -/
namespace Z
open PySem PySem.Spec PyProof.Rows L2
section
variable {X : Cx} {K : PySem.W.Frag}
theorem k_ixL (h : X.K = K := by rfl) : IxR X (rIxL K) := by subst h; exact ix_list
theorem k_ixT (h : X.K = K := by rfl) : IxR X (rIxT K) := by subst h; exact ix_tup
theorem k_ix (h : X.K = K := by rfl) : IxR X (rIx K) := by subst h; exact ix_seq
theorem k_isi (h : X.K = K := by rfl) : CallR X (.builtin "isinstance") (rIsi K) := by subst h; exact call_isi
theorem k_in (h : X.K = K := by rfl) : OpR X (compareOp .In) (rIn K false) := by subst h; exact op_in_seq
theorem k_notIn (h : X.K = K := by rfl) : OpR X (compareOp .NotIn) (rIn K true) := by subst h; exact op_notIn_seq
theorem k_eqD (hu : X.A.units + 64 < cLine) (h : X.K = K := by rfl) : OpR X (compareOp .Eq) (rEqD K) := by subst h; exact op_eqD hu
theorem k_neD (hu : X.A.units + 64 < cLine) (h : X.K = K := by rfl) : OpR X (compareOp .NotEq) (rNeD K) := by subst h; exact op_neD hu
def rLenQ (K : PySem.W.Frag) : List V → Hp → VK → Prop := fun xs H Q => ∃ p ys, xs = [.ref p] ∧ (SqL K H p ys ∨ SqT K H p ys) ∧ Q (.int ys.length) H
theorem k_len (h : X.K = K := by rfl) : CallR X (.builtin "len") (rLenQ K) := by subst h; exact call_len_seq
def rTupOf (K : PySem.W.Frag) : List V → Hp → VK → Prop := fun xs H Q => ∃ p ys, xs = [.ref p] ∧ ((SqL K H p ys ∧ ∀ l, H l = none → Q (.ref l) (upd H l (.tup ys))) ∨ (SqT K H p ys ∧ Q (.ref p) H))
theorem k_tupOf (h : X.K = K := by rfl) : CallR X (.type "tuple") (rTupOf K) := by subst h; exact call_tuple_of
def rListOf (K : PySem.W.Frag) : List V → Hp → VK → Prop := fun xs H Q => ∃ p ys, xs = [.ref p] ∧ (SqL K H p ys ∨ SqT K H p ys) ∧ ∀ l, H l = none → Q (.ref l) (upd H l (.lst ys))
theorem k_listOf (h : X.K = K := by rfl) : CallR X (.type "list") (rListOf K) := by subst h; exact call_list_of
theorem k_all (hc : X.calm = true) (h : X.K = K := by rfl) : CallR X (.builtin "all") (rAll K) := by subst h; exact cr_all hc
theorem k_slL (h : X.K = K := by rfl) : SlR X (rSlL K) := by subst h; exact sl_list
theorem k_slT (h : X.K = K := by rfl) : SlR X (rSlT K) := by subst h; exact sl_tup
theorem k_catT (h : X.K = K := by rfl) : OpR X (binaryOp .Add) (rCatT K) := by subst h; exact op_catT
variable {tg l e o a b : Expr} {es : List Expr} {tl te to : TE} {t ta : TA} {pos apos cpos p : Pos}
theorem k_list (hl : PE X l tl) (h : X.K = K := by rfl) : PI X tg l (iList K tl) := by subst h; exact pi_list hl
theorem k_tup (hl : PE X l tl) (h : X.K = K := by rfl) : PI X tg l (iTup K tl) := by subst h; exact pi_tup hl
theorem k_zip {e2 : Expr} {tpos : Pos} {elts : List Expr} {kk : Nat} (hm : X.mg "zip" = none) (ha : PA X [e, e2] ta) (h : X.K = K := by rfl) (hg : Gl X "zip" := by rfl)
    (hs : starEach [e, e2] X.env = (false, eval e X.env) :: starEach [e2] X.env := by rfl) (hpl : (backTo pos (starEach [e2] X.env)).any (·.1) = false := by rfl) :
    PI X (.Tuple elts kk tpos) (.Call (.Name "zip" p) [e, e2] [] pos) (RZ.iZipA K ta) := by subst h; exact RZ.pi_zipA hg hm ha hs hpl
theorem k_pgT {es : List Expr} {k : Nat} {t : TGs} {n : Nat} (h : PGs X es t) (hK : X.K = K := by rfl) (hc : X.calm = true := by rfl) (hn : (assignEach es X.env).length = n := by rfl) (hst : (assignEach es X.env).findIdx? (·.1) = none := by rfl) :
    PG X (.Tuple es k pos) (gTup K n t) := by subst hK; exact pg_tup hc h hn hst
theorem k_bm {T id : String} {name : Str} {r : V → List V → Hp → VK → Prop} (pa : PlainAttrs T) (slot : Slot T name id) (hty : typeOf (.builtin id) = pure (.type "method_descriptor")) (hm : MtR X id r) (ho : PE X o to) (ha : PA X (e :: es) t)
    (hK : X.K = K := by rfl)
    (hbase : attributeBase o name X.env (eval o X.env) = eval o X.env := by rfl)
    (hfew : ((backTo cpos (starEach (e :: es) X.env)).all (fun x => !x.1) && (backToKw cpos (keywordEach [] X.env)).all (fun x => x.1.isSome)
      && decide ((e :: es).length + ([] : List Keyword).length + (if ([] : List Keyword).isEmpty then 0 else 1) < 30)) = true := by rfl)
    (hline : (apos.endLine == cpos.line) = true := by rfl) (hs : starEach (e :: es) X.env = (false, eval e X.env) :: starEach es X.env := by rfl) (hplain : (backTo cpos (starEach es X.env)).any (·.1) = false := by rfl) :
    PE X (.Call (.Attribute o name apos) (e :: es) [] cpos) (tBM K T r to t) := by subst hK; exact pe_bm pa slot hty hm ho ha hbase hfew hline hs hplain
theorem k_bm0 {T id : String} {name : Str} {r : V → List V → Hp → VK → Prop} (pa : PlainAttrs T) (slot : Slot T name id) (hty : typeOf (.builtin id) = pure (.type "method_descriptor")) (hm : MtR X id r) (ho : PE X o to)
    (hK : X.K = K := by rfl) (hbase : attributeBase o name X.env (eval o X.env) = eval o X.env := by rfl) (hline : (apos.endLine == cpos.line) = true := by rfl) : PE X (.Call (.Attribute o name apos) [] [] cpos) (tBM0 K T r to) := by
  subst hK; exact pe_bm0 pa slot hty hm ho hbase hline
/-- join, split of texts, told by values -/
def rJoin (K : PySem.W.Frag) : V → List V → Hp → VK → Prop := fun x xs H Q => ∃ a p, ∃ ys : List Str, x = .str a ∧ xs = [.ref p] ∧ (SqL K H p (ys.map V.str) ∨ SqT K H p (ys.map V.str)) ∧
      (ys.map (·.length)).sum + ys.length * a.length ≤ 16777216 ∧ Q (.str (Txt.join a ys)) H
theorem k_join (ho : PE X o to) (he : PE X e te) (hK : X.K = K := by rfl) (hs : starEach [e] X.env = [(false, eval e X.env)] := by rfl) (hbase : attributeBase o "join" X.env (eval o X.env) = eval o X.env := by rfl) (hline : (apos.endLine == pos.line) = true := by rfl) :
    PE X (.Call (.Attribute o "join" apos) [e] [] pos) (tM1 (rJoin K) to te) := by subst hK; exact pe_join ho he hs hbase hline
theorem k_star (he : PE X e te) (hr : PA X es t) (hK : X.K = K := by rfl) (hs : starEach (.Starred e p :: es) X.env = (true, eval e X.env) :: starEach es X.env := by rfl) : PA X (.Starred e p :: es) (StX.tStar K te t) := by
  subst hK; exact StX.pa_star he hr hs
theorem k_fld {f : Str} (he : PE X e te) (hb : attributeBase e f X.env (eval e X.env) = eval e X.env) (hK : X.K = K := by rfl) : PE X (.Attribute e f pos) (tFld K te f) := by subst hK; exact pe_fld he hb
end
end Z
set_option Elab.async false
set_option linter.all false
set_option maxRecDepth 100000
set_option maxHeartbeats 4000000
/-! enumerate(t), t a tuple -/
namespace Z
open PySem PySem.Spec PyProof.Rows L2
theorem meets_enum_new1 {v : Value} {o : Obj} {H : Heap → Prop} (B : Begins v o H) :
    Meets (Builtin.«enumerate.__new__» ⟨[.type "enumerate", v], []⟩) (fun _ R s => H s.heap ∧
      R (.ok (.ret (.ref (s.heap.push o).objs.size))) { s with heap := (s.heap.push o).push { cls := .type "enumerate", data := .fields #[.none, .bool false, .ref s.heap.objs.size, rawInt 0, .none, .none] } }) :=
  .of_wp fun prog w A R s h => by
    obtain ⟨hp, g, d, tk, os⟩ := s; obtain ⟨h1, h⟩ := h
    have hsub := sub_enumerate
    have q1 : ∀ {A' : Around} {E : Value → Shared → Prop} {Q : Value → Shared → Prop}, Q (.ref hp.objs.size) ⟨hp.push o, g, d, tk, os⟩ → wpAny (model prog w) A' (pyIter v) Q E ⟨hp, g, d, tk, os⟩ :=
      fun q => B.iter prog w _ _ ⟨hp, g, d, tk, os⟩ _ h1 q
    wp_walk using q1
    refine wpAny_stack_any fun st => wpAny_pure ?_
    split
    · rename_i c _ _ _ _ _
      cases (c == Value.type "enumerate")
      · wp_walk using q1
        exact ⟨_, rfl, h⟩
      · wp_walk using q1
        exact ⟨_, rfl, h⟩
    · wp_walk using q1
      exact ⟨_, rfl, h⟩
end Z
namespace Z
open PySem PySem.Spec PyProof.Rows L2
section
variable {prog : Program} {w : World} {A : Around} {E : Value → Shared → Prop} {s : Shared}
theorem call_enumT {v : Value} {o : Obj} {H : Heap → Prop} {Q : Value → Shared → Prop} (B : Begins v o H) (h1 : H s.heap)
    (h : ∀ h', IsEnum h' (s.heap.objs.size + 1) s.heap.objs.size 0 .none → h'.get? s.heap.objs.size = some o → h'.objs.size = s.heap.objs.size + 2 → (∀ b o, s.heap.get? b = some o → h'.get? b = some o) → Q (.ref (s.heap.objs.size + 1)) { s with heap := h' }) :
    wpAny (model prog w) A (call (.type "enumerate") [v]) Q E s := by
  refine callType_new F.called_enumerate (by decide) (F.typeCall_enumerate_1 _) (F.newCall_enumerate_1 _) (fun obj => F.args_object_init_2 obj _) F.entry_enumerate_new (meets_enum_new1 B) ⟨h1, ?_⟩
  have hz : (s.heap.push o).objs.size = s.heap.objs.size + 1 := Heap.size_push ..
  show _ ∧ _
  rw [hz]
  have q := Heap.get?_push_size (s.heap.push o) (o := { cls := .type "enumerate", data := .fields #[.none, .bool false, .ref s.heap.objs.size, rawInt 0, .none, .none] }) rfl
  rw [hz] at q
  exact ⟨⟨_, q, rfl⟩, h _ q (Heap.get?_push_of_some _ (Heap.get?_push_size _ B.free)) (by rw [Heap.size_push, hz]) fun b o x => Heap.get?_push_of_some _ (Heap.get?_push_of_some _ x)⟩
end
def IteT (K : PySem.W.Frag) (a : Addr) : It :=
  ⟨fun i H => ∃ (xs : List V) (x : V), SqT K H a xs ∧ xs[i]? = some x, fun i H v H' => ∃ T x, v = .ref T ∧ H T = none ∧ H' = upd H T (.tup [.int (i : Nat), x]) ∧ ∀ xs, SqT K H a xs → xs[i]? = some x, fun i H => ∃ xs : List V, SqT K H a xs ∧ xs.length ≤ i⟩
theorem turn_enumT {P : Program} {w : World} {K : PySem.W.Frag} {elts : List Expr} {kk : Nat} {tpos : Pos} (a e it : Addr) :
    Turn P w K (.Tuple elts kk tpos) (IteT K a) [e, it] e (fun i h => (∃ old, IsEnum h e it ((i : Nat) : Int) old) ∧ h.IsTupleIter it a i ∧ e ≠ it ∧ i < i + 1) where
  mem := by simp
  obj := fun i h st b hb => by
    obtain ⟨⟨old, he⟩, ⟨o, ho, hc, hd⟩, _⟩ := st
    rcases (show b = e ∨ b = it by simpa using hb) with z | z
    · subst z; exact ⟨_, he, fun v q => nomatch q⟩
    · subst z; exact ⟨o, ho, fun v q => by rw [hd] at q; cases q⟩
  keep := fun i h h' ⟨⟨old, he⟩, hi, hne⟩ k => ⟨⟨old, k e (by simp) _ he⟩, hi.at fun o q => k it (by simp) o q, hne⟩
  item := by
    intro X hP hw hK hc i pins s σ H E I hf ⟨⟨old, he⟩, hit, hne, _⟩ ⟨xs, x, hq, hx⟩
    subst hP hw hK
    obtain ⟨its, rv, p, hz⟩ := I.tuple hq
    obtain ⟨u, hu, ru⟩ := rv.get hx
    have hel : e < s.heap.objs.size := Heap.lt_size he
    have hil : it < s.heap.objs.size := by obtain ⟨_, q, _⟩ := hit; exact Heap.lt_size q
    have hai : a ≠ it := by
      rintro rfl
      obtain ⟨_, q, c, _⟩ := hit
      obtain ⟨_, q', c', _⟩ := p
      rw [q] at q'; cases q'; rw [c] at c'; injection c' with c'; exact absurd c' (by decide)
    have hae : e ≠ a := by
      rintro rfl
      obtain ⟨_, q', c', _⟩ := p
      rw [(show s.heap.get? e = _ from he)] at q'; cases q'; injection c' with c'; exact absurd c' (by decide)
    have hlt : i < its.toArray.size := by
      have := (List.getElem?_eq_some_iff.mp hu).1
      simpa using this
    refine wpAny_pyNext_enum_itemD (Draws.tuple (A := X.A.in1) (I.ok.hd hc) it a hai its.toArray) he ⟨hit, p⟩ hlt hne (by simp [hne, hae]) fun x' h' tk hx' ho hst hT hsz hk => ?_
    have hxu : x' = u := by
      have : its.toArray[i]? = some u := by simpa using hu
      rw [this] at hx'; exact (Option.some.inj hx').symm
    subst hxu
    refine ⟨_, rfl, wpAny_letOwnedTupleGo_enum (s := { s with heap := h', toks := tk + 1 }) ho fun h'' he' sb => ?_⟩
    have hT2 : h''.get? s.heap.objs.size = some { cls := .type "tuple", data := .seq #[.int i tk, x'] } := (sb.2 _ (Nat.ne_of_gt hel)).trans hT
    have new : ObjOk X.prog X.w (upd H s.heap.objs.size (.tup [.int (i : Nat), x])) h'' s.heap.objs.size (.tup [.int (i : Nat), x]) :=
      ⟨by show 2 ≤ sizeLine; decide, [.int i tk, x'], .cons ⟨_, rfl⟩ (.cons ru .nil), ⟨_, hT2, rfl, _, rfl⟩⟩
    have I1 : Inv X pins σ (upd H s.heap.objs.size (.tup [.int (i : Nat), x])) { s with heap := h'', toks := tk + 1 } :=
      I.turnedNew (ch := [e, it]) (fun b ob hb q => (sb.2 b (fun z => hb (by simp [z]))).trans (hk b ob (fun z => hb (by simp [z])) (fun z => hb (by simp [z])) q)) hf (Nat.le_refl _) new
    refine ⟨.ref s.heap.objs.size, _, I1, rfl, ⟨_, x, rfl, I.hok.fresh (Nat.le_refl _), rfl, fun ys hy => by rw [I.tuple_inj hy hq]; exact hx⟩, ⟨⟨x', ?_⟩, hst.1.at fun o q => (sb.2 it (Ne.symm hne)).trans q, hne, by omega⟩, fun b hb => ?_⟩
    · rw [show ((i + 1 : Nat) : Int) = (i : Int) + 1 from by omega]; exact he'
    · have hb' : b < s.heap.objs.size := by
        rcases (show b = e ∨ b = it by simpa using hb) with z | z
        · subst z; exact hel
        · subst z; exact hil
      rw [upd_ne (Nat.ne_of_lt hb')]
      exact (hf b hb).1
  done := by
    intro X hP hw hK hc i pins s σ H E I hf ⟨⟨old, he⟩, hit, hne, _⟩ ⟨xs, hq, hx⟩
    subst hP hw hK
    obtain ⟨its, rv, p, hz⟩ := I.tuple hq
    have hl := rv.length
    have hai : a ≠ it := by
      rintro rfl
      obtain ⟨_, q, c, _⟩ := hit
      obtain ⟨_, q', c', _⟩ := p
      rw [q] at q'; cases q'; rw [c] at c'; injection c' with c'; exact absurd c' (by decide)
    obtain ⟨f0, f1, f2, f3, f4, f5⟩ := hf it (by simp)
    refine wpAny_pyNext_enum_endD (P := fun i v => its.toArray[i]? = some v) (St := fun n h => h.IsTupleIter it a i ∧ h.IsTuple a its.toArray) (fp := [it, a]) (n := 0) ?_ he ⟨hit, p⟩ fun h' eb => ⟨rfl, I.turned (t' := s.toks) (fun b o hb q => eb b o hb q) f0 f1 f3 f4 f5⟩
    exact { live := fun _ _ st => let ⟨o, ho, _⟩ := st.1; ⟨o, ho⟩, frame := fun _ _ _ st hk => ⟨st.1.at fun o e => hk it (by simp) o e, st.2.at fun o e => hk a (by simp) o e⟩, item := fun j s Q E hi st hQ => absurd hi (Nat.not_lt_zero _), done := fun s Q E st hE => wpAny_nextOf_tuple_end (show X.A.in1.handled = none from I.ok.hd hc) st.1 st.2 (by simp; omega) hE }
  self := fun A i s Q E ⟨⟨_, he⟩, _⟩ h => wpAny_pyIter_enum he h
def iEnumT (K : PySem.W.Frag) (ta : TA) : TI := fun σ H R => ta σ H fun vs H1 => ∃ a xs, vs = [.ref a] ∧ SqT K H1 a xs ∧ R (IteT K a) H1
theorem pi_enumT {X : Cx} {K : PySem.W.Frag} {e : Expr} {ta : TA} {p pos tpos : Pos} {elts : List Expr} {kk : Nat} (hm : X.mg "enumerate" = none) (ha : PA X [e] ta) (hK : X.K = K := by rfl) (hg : Gl X "enumerate" := by rfl) (hs : starEach [e] X.env = [(false, eval e X.env)] := by rfl) :
    PI X (.Tuple elts kk tpos) (.Call (.Name "enumerate" p) [e] [] pos) (iEnumT K ta) := by
  subst hK
  refine ⟨fun pins s σ H R I h => ?_⟩
  refine Call_ (ld_blt I hg hm boot_enumerate (PyProof.Rows.callWith_type1 (thn (ha.run pos pins s σ H _ I h) fun us s1 ⟨vs, H1, I1, r1, q1⟩ => ?_) hs rfl))
  obtain ⟨a, xs, ex, hq, q⟩ := q1
  subst ex
  cases r1 with
  | cons r rr =>
    cases rr
    cases r
    obtain ⟨its, rv, p', hz⟩ := I1.tuple hq
    refine call_enumT (begins_tuple a its.toArray) p' fun h' he hit hsz hk => wpAny_pyIter_enum he ?_
    have I2 : Inv X pins σ H1 { s1 with heap := h' } := I1.kept (t' := s1.toks) hk
    refine ⟨s1.heap.objs.size + 1, [s1.heap.objs.size + 1, s1.heap.objs.size], _, _, H1, rfl, I2, turn_enumT a (s1.heap.objs.size + 1) s1.heap.objs.size, ⟨⟨.none, he⟩, ⟨_, hit, rfl, rfl⟩, Nat.succ_ne_self _, Nat.zero_lt_one⟩, fun b hb => ?_, q⟩
    have hle : s1.heap.objs.size ≤ b := by
      rcases (show b = s1.heap.objs.size + 1 ∨ b = s1.heap.objs.size by simpa using hb) with z | z
      · rw [z]; exact Nat.le_succ _
      · rw [z]; exact Nat.le_refl _
    exact I1.fpOk hle (I1.hok.fresh hle)
theorem walk_enumT {K : PySem.W.Frag} {a : Addr} {xs : List V} : Walk (IteT K a) xs.length (fun H => SqT K H a xs) (YPair (fun i => some (.int (i : Nat))) (fun i => xs[i]?)) where
  goes := fun i H hi h => ⟨xs, xs[i], h, List.getElem?_eq_getElem hi⟩
  stops := fun H h => ⟨xs, h, Nat.le_refl _⟩
  yields := fun i H x H' hi h ⟨t, v, e1, e2, e3, e4⟩ => ⟨t, _, v, e1, e2, e3, rfl, e4 _ h⟩
end Z
set_option Elab.async false
set_option linter.all false
set_option autoImplicit false
set_option maxRecDepth 100000
set_option maxHeartbeats 4000000
namespace Z
open PySem PySem.Spec PyProof.Rows L2
def top (i : Nat) : Stmt := PySem.Challenge.pw_labelframes_k05_tables_of_frames.main.body.getD i (.Pass ⟨0, 0, 0, 0⟩)
abbrev FnP (K : PySem.W.Frag) (x : Str) (st : Stmt) (f : Addr) (fd : FuncData) : Prop := FunD K x x (defArgs st) (defBody st) (defScope st) [] [] f fd
def Def0 (K : PySem.W.Frag) (mg : Str → Option Value) (x : Str) (st : Stmt) : Prop := ∃ f fd, FnP K x st f fd ∧ mg x = some (.ref f)
theorem kn_of {P : Program} {w : World} {K : PySem.W.Frag} {mg : Str → Option Value} {base : Heap} {CX : CXT} {x : Str} {st : Stmt} {k : Nat} {ps : List Str} {sp : Sp} {f : Addr} {fd : FuncData} (F : FnP K x st f fd) (m : mg x = some (.ref f))
    (ok : FnOk P w K mg base CX k f fd ps sp) (b : Binds K fd ps []) : Kn P w K mg base CX x k ps [] sp := ⟨f, fd, [], ok, m, F.kp, b, .nil⟩
theorem pe_gv {X : Cx} {x : Str} {v : V} {pos : Pos} (h : ∃ u, X.mg x = some u ∧ RelV v u) (hg : Gl X x := by rfl) (hd : (x == ("__debug__" : Str)) = false := by decide) : PE X (.Name x pos) (tC v) := by
  obtain ⟨u, m, r⟩ := h
  exact pe_glob hg m r hd
structure Txt (K : PySem.W.Frag) (mg : Str → Option Value) : Prop where
  z_isinstance : mg "isinstance" = none
  z_int : mg "int" = none
  z_str : mg "str" = none
  z_bool : mg "bool" = none
  z_tuple : mg "tuple" = none
  z_len : mg "len" = none
  z_all : mg "all" = none
  z_zip : mg "zip" = none
  z_set : mg "set" = none
  z_enumerate : mg "enumerate" = none
  z_range : mg "range" = none
  z_abs : mg "abs" = none
  z_divmod : mg "divmod" = none
  z_max : mg "max" = none
  z_min : mg "min" = none
  c_MOST_LETTERS : ∃ u, mg "MOST_LETTERS" = some u ∧ RelV (.int 8) u
  c_CELL_WIDTH : ∃ u, mg "CELL_WIDTH" = some u ∧ RelV (.int 10) u
  c_KINDS : ∃ a, mg "KINDS" = some (.ref a) ∧ ∀ H, SqT K H a [.str "int", .str "text", .str "bool"]

/-! what is a name, a kind, a text, a value, of data -/
def wholeD : PyData → Bool
  | .int _ => true
  | _ => false
def nameS (z : Str) : Bool := decide (1 ≤ z.length ∧ z.length ≤ 8) && z.cps.toList.all fun c => decide (97 ≤ c ∧ c ≤ 122)
def nameD : PyData → Bool
  | .str z => nameS z
  | _ => false
def kindS (z : Str) : Bool := z == "int" || z == "text" || z == "bool"
def kindD : PyData → Bool
  | .str z => kindS z
  | _ => false
def textS (z : Str) : Bool := Txt.isascii z && Txt.isprintable z
def textD : PyData → Bool
  | .str z => textS z
  | _ => false
def valueD (k : Str) (d : PyData) : Bool := match d with
  | .none => true
  | d => if k = "int" then wholeD d else if k = "text" then textD d else isD d "bool"
def spD (K : PySem.W.Frag) (f : PyData → Bool) : Sp := fun vs H Q _ => ∃ v d, vs = [v] ∧ Da K H v d ∧ ∀ H', Same H H' → Q (.bl (f d)) H'
def spValue (K : PySem.W.Frag) : Sp := fun vs H Q _ => ∃ k v d, vs = [.str k, v] ∧ Da K H v d ∧ ∀ H', Same H H' → Q (.bl (valueD k d)) H'
section
variable {P : Program} {w : World} {K : PySem.W.Frag} {mg : Str → Option Value} {base : Heap}
theorem kn_is_whole (D : Def0 K mg "is_whole" (top 15)) (T : Txt K mg) : Kn P w K mg base CX0 "is_whole" 1 ["value"] [] (spD K wholeD) := by
  obtain ⟨f, fd, F, m⟩ := D
  have sc_ : FnScope ["value"] ["value"] (defScope (top 15)) := ⟨rfl, rfl, rfl, by decide +kernel, rfl, by decide +kernel, by decide +kernel⟩
  refine kn_of F m (F.ok sc_ (fun vs H Q E h => ?_) (fun cdv A outer s H vs Q E hr h => ?_)) (F.bindsN fun _ _ _ _ _ _ us hl => match us, hl with | [_], _ => rfl)
  · obtain ⟨v, d, rfl, _⟩ := h; rfl
  · obtain ⟨v, d, rfl, hd, q⟩ := h
    refine ⟨_, PSs.nox (pss_one (ps_ret (pe_and (pe_callB (k_isi (K := K)) (by rfl) T.z_isinstance (by decide +kernel) (pa_cons (pv 0) (pa_cons (pe_bltn (v := .ty "int") (by rfl) T.z_int (by decide +kernel) rfl) pa_nil))) (pe_one (pe_not (pe_callB (k_isi (K := K)) (by rfl) T.z_isinstance (by decide +kernel) (pa_cons (pv 0) (pa_cons (pe_bltn (v := .ty "bool") (by rfl) T.z_bool (by decide +kernel) rfl) pa_nil)))))))), ?_⟩
    refine ⟨_, rfl, ?_⟩
    refine ⟨_, _, _, _, _, rfl, .ty _, Da.ty hd, kit_D _ "int" (by decide), ?_⟩
    refine ⟨_, rfl, ?_⟩
    cases d with
    | int i =>
      refine ⟨_, rfl, ?_⟩
      refine ⟨_, _, _, _, _, rfl, .ty _, Da.ty hd, kit_D _ "bool" (by decide), ?_⟩
      exact ⟨_, rfl, q _ (Same.refl _)⟩
    | bool i =>
      refine ⟨_, rfl, ?_⟩
      refine ⟨_, _, _, _, _, rfl, .ty _, Da.ty hd, kit_D _ "bool" (by decide), ?_⟩
      exact ⟨_, rfl, q _ (Same.refl _)⟩
    | _ => exact q _ (Same.refl _)
end
end Z
set_option Elab.async false
set_option linter.all false
set_option autoImplicit false
set_option maxRecDepth 100000
set_option maxHeartbeats 4000000
namespace Z
open PySem PySem.Spec PyProof.Rows L2
theorem map_of {α : Type} {f : α → V} {l : List α} {acc : List V} (hl : acc.length = l.length) (h : ∀ (i : Nat) y, acc[i]? = some y → ∃ c, l[i]? = some c ∧ y = f c) : acc = l.map f := by
  apply List.ext_getElem?
  intro i
  by_cases hi : i < acc.length
  · obtain ⟨c, h1, h2⟩ := h i acc[i] (List.getElem?_eq_getElem hi)
    rw [List.getElem?_map, h1, List.getElem?_eq_getElem hi, h2]; rfl
  · rw [List.getElem?_eq_none (by omega), List.getElem?_eq_none (by rw [List.length_map]; omega)]
theorem lt1 (a b : Nat) : ([a] < [b]) ↔ a < b := by
  constructor
  · intro h
    cases h with
    | rel h => exact h
    | cons h => cases h
  · intro h; exact List.Lex.rel h
theorem ge_chr {a c : Nat} {x : Str} (hx : x.cps.toList = [a]) : (!decide ((⟨#[c]⟩ : Str).cps.toList < x.cps.toList)) = decide (a ≤ c) := by
  have e : (⟨#[c]⟩ : Str).cps.toList = [c] := rfl
  rw [hx, e]
  by_cases h : a ≤ c
  · rw [decide_eq_true h, decide_eq_false (fun q => by have := (lt1 c a).mp q; omega)]; rfl
  · rw [decide_eq_false h, decide_eq_true ((lt1 c a).mpr (by omega))]; rfl
theorem le_chr {a c : Nat} {x : Str} (hx : x.cps.toList = [a]) : (!decide (x.cps.toList < (⟨#[c]⟩ : Str).cps.toList)) = decide (c ≤ a) := by
  have e : (⟨#[c]⟩ : Str).cps.toList = [c] := rfl
  rw [hx, e]
  by_cases h : c ≤ a
  · rw [decide_eq_true h, decide_eq_false (fun q => by have := (lt1 a c).mp q; omega)]; rfl
  · rw [decide_eq_false h, decide_eq_true ((lt1 a c).mpr (by omega))]; rfl
theorem str_len (z : Str) : z.length = z.cps.toList.length := by simp [Str.length]
section
variable {P : Program} {w : World} {K : PySem.W.Frag} {mg : Str → Option Value} {base : Heap}
theorem kn_is_name (D : Def0 K mg "is_name" (top 18)) (T : Txt K mg) : Kn P w K mg base CX0 "is_name" 1 ["value"] [] (spD K nameD) := by
  obtain ⟨f, fd, F, m⟩ := D
  have sc_ : FnScope ["value", "sign"] ["value"] (defScope (top 18)) := ⟨rfl, rfl, rfl, by decide +kernel, rfl, by decide +kernel, by decide +kernel⟩
  refine kn_of F m (F.ok sc_ (fun vs H Q E h => ?_) (fun cdv A outer s H vs Q E hr h => ?_)) (F.bindsN fun _ _ _ _ _ _ us hl => match us, hl with | [_], _ => rfl)
  · obtain ⟨v, d, rfl, _⟩ := h; rfl
  · obtain ⟨v, d, rfl, hd, q⟩ := h
    refine ⟨_, PSs.nox (pss_cons (ps_if (PW.pt (pw_or (pt_not (pt_val (pe_callB (k_isi (K := K)) (by rfl) T.z_isinstance (by decide +kernel) (pa_cons (pv 0) (pa_cons (pe_bltn (v := .ty "str") (by rfl) T.z_str (by decide +kernel) rfl) pa_nil))))) (pw_or1 (pt_not (pt_chain op_le op_le pe_int (pe_callB call_len_str (by rfl) T.z_len (by decide +kernel) (pa_cons (pv 0) pa_nil)) (pe_gv T.c_MOST_LETTERS)))))) (pss_one (ps_ret pe_bl)) pss_nil)
      (pss_one (ps_ret (pe_callB (k_all (K := K) rfl) (by rfl) T.z_all (by decide +kernel) (pa_cons (pe_lc (own := [("sign", 1)]) (g := gName 1) (by rfl) sc_.nd (pi_str (pv 0)) (blkOk_by (N := ["value", "sign"]) (sc := defScope (top 18)) (by decide +kernel)) (fun _ _ _ _ _ => (pg_name (i := 1) sc_.nd rfl (by first | exact Or.inl rfl | exact Or.inr rfl))) (fun _ _ _ _ _ => pts_nil) (fun _ _ _ _ _ => (pe_chain op_le_str op_le_str pe_str (pv 1) pe_str))) pa_nil))))), ?_⟩
    refine ⟨_, rfl, ?_⟩
    refine ⟨_, _, _, _, _, rfl, .ty _, Da.ty hd, kit_D _ "str" (by decide), ?_⟩
    refine ⟨_, rfl, ?_⟩
    cases d with
    | str z =>
      obtain ⟨_, hz⟩ : v = .str z ∧ z.length ≤ 1000000 := by cases hd; exact ⟨rfl, by assumption⟩
      subst_vars
      refine ⟨_, rfl, _, rfl, Nat.le_trans hz (by decide), _, _, rfl, rfl, _, rfl, ?_⟩
      have fin : ∀ H', Same H H' → ¬ (1 ≤ z.length ∧ z.length ≤ 8) → Q (.bl false) H' := fun H' e n => by
        have := q H' e
        rw [show nameD (.str z) = false from by simp only [nameD, nameS]; rw [decide_eq_false n]; rfl] at this
        exact this
      refine ite2 (fun c1 => ?_) (fun c1 => ?_)
      · refine ⟨_, _, rfl, rfl, _, rfl, ?_⟩
        have c1' := of_decide_eq_true c1
        refine ite2 (fun c2 => ?_) (fun c2 => ?_)
        · simp only [Bool.not_eq_true', decide_eq_false_iff_not] at c2
          exact fin _ (Same.refl _) (by omega)
        · have c2' : z.length ≤ 8 := by simp at c2; omega
          refine ⟨_, rfl, _, rfl, fun D hD => lc_ok walk_str (fun i y _ => ∃ c, z.cps.toList[i]? = some c ∧ y = .bl (decide (97 ≤ c ∧ c ≤ 122))) hD (Nat.lt_of_le_of_lt (show z.cps.size ≤ 8 from c2') (by decide)) (fun _ _ => trivial) (fun _ _ _ _ _ _ h => h) (fun _ _ _ _ h => by rw [h.1]; exact Same.refl _) ?_ ?_⟩
          · rintro i x H1 H' hi s1 ⟨rfl, c, hc, rfl⟩ Q' k
            refine ⟨rfl, ?_⟩
            refine ⟨_, rfl, _, _, rfl, rfl, _, rfl, ?_⟩
            rw [ge_chr (a := 97) (by decide +kernel)]
            have hc' : z.cps.toList[i]? = some c := by simpa using hc
            refine ite2 (fun c3 => ?_) (fun c3 => ?_)
            · refine ⟨_, _, rfl, rfl, ?_⟩
              rw [le_chr (a := 122) (by decide +kernel)]
              exact k _ _ (Same.refl _) ⟨c, hc', by simp only [decide_eq_true_eq] at c3; simp [c3]⟩
            · exact k _ _ (Same.refl _) ⟨c, hc', by simp only [decide_eq_true_eq] at c3; simp [c3]⟩
          · intro H1 acc s1 hacc hl hr
            have e : acc = (z.cps.toList.map fun c => decide (97 ≤ c ∧ c ≤ 122)).map V.bl := by
              rw [List.map_map]
              exact map_of (by simpa using hl) hr
            refine ⟨_, _, rfl, SqL.of (by rw [hacc, e]), ?_⟩
            have := q H1 s1
            rw [show nameD (.str z) = (z.cps.toList.map fun c => decide (97 ≤ c ∧ c ≤ 122)).all id from by simp only [nameD, nameS]; rw [decide_eq_true (⟨by omega, c2'⟩ : 1 ≤ z.length ∧ z.length ≤ 8), List.all_map]; rfl] at this
            exact this
      · refine ⟨_, rfl, ?_⟩
        refine iteT ?_
        simp only [decide_eq_true_eq] at c1
        exact fin _ (Same.refl _) (by omega)
    | _ => exact q _ (Same.refl _)
end
end Z
set_option Elab.async false
set_option linter.all false
set_option autoImplicit false
set_option maxRecDepth 100000
set_option maxHeartbeats 4000000
namespace Z
open PySem PySem.Spec PyProof.Rows L2
theorem beq_swap (a b : Str) : (a == b) = (b == a) := by
  by_cases h : a = b
  · subst h; rfl
  · rw [beq_eq_false_iff_ne.mpr h, beq_eq_false_iff_ne.mpr (Ne.symm h)]
def pairD : PyData → Bool
  | .tuple ds => ds.length == 2
  | _ => false
def columnD : PyData → Bool
  | .tuple [a, b] => nameD a && kindD b
  | _ => false
section
variable {P : Program} {w : World} {K : PySem.W.Frag} {mg : Str → Option Value} {base : Heap}
theorem kn_is_kind (D : Def0 K mg "is_kind" (top 19)) (T : Txt K mg) : Kn P w K mg base CX0 "is_kind" 1 ["value"] [] (spD K kindD) := by
  obtain ⟨f, fd, F, m⟩ := D
  obtain ⟨a_KINDS, g_KINDS, s_KINDS⟩ := T.c_KINDS
  have sc_ : FnScope ["value"] ["value"] (defScope (top 19)) := ⟨rfl, rfl, rfl, by decide +kernel, rfl, by decide +kernel, by decide +kernel⟩
  refine kn_of F m (F.ok sc_ (fun vs H Q E h => ?_) (fun cdv A outer s H vs Q E hr h => ?_)) (F.bindsN fun _ _ _ _ _ _ us hl => match us, hl with | [_], _ => rfl)
  · obtain ⟨v, d, rfl, _⟩ := h; rfl
  · obtain ⟨v, d, rfl, hd, q⟩ := h
    refine ⟨_, PSs.nox (pss_one (ps_ret (pe_and (pe_callB (k_isi (K := K)) (by rfl) T.z_isinstance (by decide +kernel) (pa_cons (pv 0) (pa_cons (pe_bltn (v := .ty "str") (by rfl) T.z_str (by decide +kernel) rfl) pa_nil))) (pe_one (pe_cmpR (k_in (K := K)) (pv 0) (pe_gv (v := .ref a_KINDS) ⟨_, g_KINDS, rfl⟩) (by rfl)))))), ?_⟩
    refine ⟨_, rfl, ?_⟩
    refine ⟨_, _, _, _, _, rfl, .ty _, Da.ty hd, kit_D _ "str" (by decide), ?_⟩
    refine ⟨_, rfl, ?_⟩
    cases d with
    | str z =>
      obtain ⟨_, hz⟩ : v = .str z ∧ z.length ≤ 1000000 := by cases hd; exact ⟨rfl, by assumption⟩
      subst_vars
      refine ⟨_, rfl, _, _, rfl, .inr (s_KINDS _), rfl, rfl, ?_⟩
      have e : inV (.str z) [.str "int", .str "text", .str "bool"] = kindD (.str z) := by
        simp only [inV, List.any_cons, List.any_nil, eqV, kindD, kindS, Bool.or_false, Bool.or_assoc]
        rw [beq_swap "int" z, beq_swap "text" z, beq_swap "bool" z]
      show Q (.bl (inV (.str z) [.str "int", .str "text", .str "bool"])) H
      rw [e]
      exact q _ (Same.refl _)
    | _ => exact q _ (Same.refl _)
theorem kn_is_text (D : Def0 K mg "is_text" (top 20)) (T : Txt K mg) : Kn P w K mg base CX0 "is_text" 1 ["value"] [] (spD K textD) := by
  obtain ⟨f, fd, F, m⟩ := D
  have sc_ : FnScope ["value"] ["value"] (defScope (top 20)) := ⟨rfl, rfl, rfl, by decide +kernel, rfl, by decide +kernel, by decide +kernel⟩
  refine kn_of F m (F.ok sc_ (fun vs H Q E h => ?_) (fun cdv A outer s H vs Q E hr h => ?_)) (F.bindsN fun _ _ _ _ _ _ us hl => match us, hl with | [_], _ => rfl)
  · obtain ⟨v, d, rfl, _⟩ := h; rfl
  · obtain ⟨v, d, rfl, hd, q⟩ := h
    refine ⟨_, PSs.nox (pss_one (ps_ret (pe_and (pe_callB (k_isi (K := K)) (by rfl) T.z_isinstance (by decide +kernel) (pa_cons (pv 0) (pa_cons (pe_bltn (v := .ty "str") (by rfl) T.z_str (by decide +kernel) rfl) pa_nil))) (pe_and (k_bm0 (K := K) PySem.F.plainAttrs_str PySem.F.slot_str_isascii PySem.F.type_str_isascii mt_isascii (pv 0)) (pe_one (k_bm0 (K := K) PySem.F.plainAttrs_str PySem.F.slot_str_isprintable PySem.F.type_str_isprintable mt_isprintable (pv 0))))))), ?_⟩
    refine ⟨_, rfl, ?_⟩
    refine ⟨_, _, _, _, _, rfl, .ty _, Da.ty hd, kit_D _ "str" (by decide), ?_⟩
    refine ⟨_, rfl, ?_⟩
    cases d with
    | str z =>
      obtain ⟨_, hz⟩ : v = .str z ∧ z.length ≤ 1000000 := by cases hd; exact ⟨rfl, by assumption⟩
      subst_vars
      refine ⟨_, rfl, rfl, _, rfl, rfl, trivial, _, rfl, ?_⟩
      refine ite2 (fun c => ?_) (fun c => ?_)
      · refine ⟨_, rfl, rfl, _, rfl, rfl, trivial, ?_⟩
        have := q _ (Same.refl _)
        rw [show textD (.str z) = Txt.isprintable z from by simp [textD, textS, c]] at this
        exact this
      · have := q _ (Same.refl _)
        rw [show textD (.str z) = false from by simp [textD, textS, c]] at this
        exact this
    | _ => exact q _ (Same.refl _)
theorem kn_is_value (D : Def0 K mg "is_value" (top 21)) (T : Txt K mg) (F_is_whole : Kn P w K mg base CX0 "is_whole" 1 ["value"] [] (spD K wholeD)) (F_is_text : Kn P w K mg base CX0 "is_text" 1 ["value"] [] (spD K textD)) : Kn P w K mg base CX0 "is_value" 2 ["kind", "value"] [] (spValue K) := by
  obtain ⟨f, fd, F, m⟩ := D
  have sc_ : FnScope ["kind", "value"] ["kind", "value"] (defScope (top 21)) := ⟨rfl, rfl, rfl, by decide +kernel, rfl, by decide +kernel, by decide +kernel⟩
  refine kn_of F m (F.ok sc_ (fun vs H Q E h => ?_) (fun cdv A outer s H vs Q E hr h => ?_)) (F.bindsN fun _ _ _ _ _ _ us hl => match us, hl with | [_, _], _ => rfl)
  · obtain ⟨k, v, d, rfl, _⟩ := h; rfl
  · obtain ⟨k, v, d, rfl, hd, q⟩ := h
    refine ⟨_, PSs.nox (pss_cons (ps_if (pt_cmpR op_isN (pv 1) pe_non (nomark _)) (pss_one (ps_ret pe_bl)) pss_nil)
      (pss_cons (ps_if (pt_cmpR op_eq (pv 0) pe_str (nomark _)) (pss_one (ps_ret (pe_own F_is_whole hr (by first | decide | omega | (simp only [Nat.add_eq]; omega)) pass0 (pa_cons (pv 1) pa_nil)))) pss_nil)
      (pss_cons (ps_if (pt_cmpR op_eq (pv 0) pe_str (nomark _)) (pss_one (ps_ret (pe_own F_is_text hr (by first | decide | omega | (simp only [Nat.add_eq]; omega)) pass0 (pa_cons (pv 1) pa_nil)))) pss_nil)
      (pss_one (ps_ret (pe_callB (k_isi (K := K)) (by rfl) T.z_isinstance (by decide +kernel) (pa_cons (pv 1) (pa_cons (pe_bltn (v := .ty "bool") (by rfl) T.z_bool (by decide +kernel) rfl) pa_nil)))))))), ?_⟩
    refine ⟨_, rfl, rfl, _, rfl, ?_⟩
    by_cases hn : v = .non
    · subst hn
      cases hd
      exact q _ (Same.refl _)
    · rw [decide_eq_false hn]
      refine iteF ?_
      have hv : valueD k d = if k = "int" then wholeD d else if k = "text" then textD d else isD d "bool" := by
        cases d <;> first | rfl | (cases hd; exact absurd rfl hn)
      refine ⟨_, rfl, rfl, _, rfl, ?_⟩
      by_cases h1 : k = "int"
      · rw [decide_eq_true (congrArg V.str h1)]
        refine iteT ?_
        refine ⟨_, rfl, _, _, rfl, hd, fun H' e => ?_⟩
        rw [if_pos h1] at hv
        rw [← hv]; exact q H' e
      · rw [decide_eq_false (fun c => h1 (V.str.inj c))]
        refine iteF ?_
        rw [if_neg h1] at hv
        refine ⟨_, rfl, rfl, _, rfl, ?_⟩
        by_cases h2 : k = "text"
        · rw [decide_eq_true (congrArg V.str h2)]
          refine iteT ?_
          refine ⟨_, rfl, _, _, rfl, hd, fun H' e => ?_⟩
          rw [if_pos h2] at hv
          rw [← hv]; exact q H' e
        · rw [decide_eq_false (fun c => h2 (V.str.inj c))]
          refine iteF ?_
          rw [if_neg h2] at hv
          refine ⟨_, rfl, ?_⟩
          refine ⟨_, _, _, _, _, rfl, .ty _, Da.ty hd, kit_D _ "bool" (by decide), ?_⟩
          rw [← hv]; exact q _ (Same.refl _)
theorem kn_is_pair (D : Def0 K mg "is_pair" (top 22)) (T : Txt K mg) : Kn P w K mg base CX0 "is_pair" 1 ["value"] [] (spD K pairD) := by
  obtain ⟨f, fd, F, m⟩ := D
  have sc_ : FnScope ["value"] ["value"] (defScope (top 22)) := ⟨rfl, rfl, rfl, by decide +kernel, rfl, by decide +kernel, by decide +kernel⟩
  refine kn_of F m (F.ok sc_ (fun vs H Q E h => ?_) (fun cdv A outer s H vs Q E hr h => ?_)) (F.bindsN fun _ _ _ _ _ _ us hl => match us, hl with | [_], _ => rfl)
  · obtain ⟨v, d, rfl, _⟩ := h; rfl
  · obtain ⟨v, d, rfl, hd, q⟩ := h
    refine ⟨_, PSs.nox (pss_one (ps_ret (pe_and (pe_callB (k_isi (K := K)) (by rfl) T.z_isinstance (by decide +kernel) (pa_cons (pv 0) (pa_cons (pe_bltn (v := .ty "tuple") (by rfl) T.z_tuple (by decide +kernel) rfl) pa_nil))) (pe_one (pe_cmpR op_eq (pe_callB (k_len (K := K)) (by rfl) T.z_len (by decide +kernel) (pa_cons (pv 0) pa_nil)) pe_int (nomark _)))))), ?_⟩
    refine ⟨_, rfl, ?_⟩
    refine ⟨_, _, _, _, _, rfl, .ty _, Da.ty hd, kit_D _ "tuple" (by decide), ?_⟩
    refine ⟨_, rfl, ?_⟩
    cases d with
    | tuple ds =>
      cases hd with
      | tup hs hl =>
        refine ⟨_, rfl, _, _, rfl, .inr hs, rfl, ?_⟩
        have := q _ (Same.refl _)
        rw [show pairD (.tuple ds) = decide (V.int ((_ : List V).length : Int) = V.int 2) from by
          rw [DaL.length hl, pairD, dec_int]
          by_cases h : ds.length = 2
          · rw [h]; rfl
          · rw [beq_eq_false_iff_ne.mpr h, beq_eq_false_iff_ne.mpr (by omega)]] at this
        exact this
    | _ => exact q _ (Same.refl _)
theorem kn_is_column (D : Def0 K mg "is_column" (top 23)) (T : Txt K mg) (F_is_pair : Kn P w K mg base CX0 "is_pair" 1 ["value"] [] (spD K pairD)) (F_is_name : Kn P w K mg base CX0 "is_name" 1 ["value"] [] (spD K nameD)) (F_is_kind : Kn P w K mg base CX0 "is_kind" 1 ["value"] [] (spD K kindD)) : Kn P w K mg base CX0 "is_column" 2 ["value"] [] (spD K columnD) := by
  obtain ⟨f, fd, F, m⟩ := D
  have sc_ : FnScope ["value"] ["value"] (defScope (top 23)) := ⟨rfl, rfl, rfl, by decide +kernel, rfl, by decide +kernel, by decide +kernel⟩
  refine kn_of F m (F.ok sc_ (fun vs H Q E h => ?_) (fun cdv A outer s H vs Q E hr h => ?_)) (F.bindsN fun _ _ _ _ _ _ us hl => match us, hl with | [_], _ => rfl)
  · obtain ⟨v, d, rfl, _⟩ := h; rfl
  · obtain ⟨v, d, rfl, hd, q⟩ := h
    refine ⟨_, PSs.nox (pss_one (ps_ret (pe_and (pe_own F_is_pair hr (by first | decide | omega | (simp only [Nat.add_eq]; omega)) pass0 (pa_cons (pv 0) pa_nil)) (pe_and (pe_own F_is_name hr (by first | decide | omega | (simp only [Nat.add_eq]; omega)) pass0 (pa_cons (pe_ix (k_ixT (K := K)) (pv 0) pe_int (fun _ _ => rfl)) pa_nil)) (pe_one (pe_own F_is_kind hr (by first | decide | omega | (simp only [Nat.add_eq]; omega)) pass0 (pa_cons (pe_ix (k_ixT (K := K)) (pv 0) pe_int (fun _ _ => rfl)) pa_nil))))))), ?_⟩
    refine ⟨_, rfl, _, _, rfl, hd, fun H1 e1 => ⟨_, rfl, ?_⟩⟩
    have q1 := fun H' e => q H' (e1.trans e)
    by_cases hp : ∃ a b, d = .tuple [a, b]
    · obtain ⟨a, b, rfl⟩ := hp
      refine iteT ?_
      cases hd with
      | tup hs hl =>
        cases hl with
        | cons ha hl2 =>
          cases hl2 with
          | cons hb hl3 =>
            cases hl3
            refine ⟨_, rfl, _, _, _, _, rfl, rfl, same_t e1 hs, atI_nat (j := 0) rfl, _, _, rfl, ha.mono e1, fun H2 e2 => ⟨_, rfl, ?_⟩⟩
            have q2 := fun H' e => q1 H' (e2.trans e)
            refine ite2 (fun c => ?_) (fun c => ?_)
            · refine ⟨_, rfl, _, _, _, _, rfl, rfl, same_t (e1.trans e2) hs, atI_nat (j := 1) rfl, _, _, rfl, hb.mono (e1.trans e2), fun H3 e3 => ?_⟩
              have := q2 H3 e3
              rw [show columnD (.tuple [a, b]) = kindD b from by simp [columnD, c]] at this
              exact this
            · have := q2 _ (Same.refl _)
              rw [show columnD (.tuple [a, b]) = false from by simp [columnD, c]] at this
              exact this
    · have hc : columnD d = false := by
        unfold columnD
        split
        · rename_i a b; exact absurd ⟨a, b, rfl⟩ hp
        · rfl
      have hp2 : pairD d = false := by
        cases d with
        | tuple ds =>
          match ds, hp with
          | [], _ => rfl
          | [_], _ => rfl
          | [a, b], hp => exact absurd ⟨a, b, rfl⟩ hp
          | _ :: _ :: _ :: _, _ => simp [pairD]
        | _ => rfl
      rw [hp2]
      refine iteF ?_
      have := q1 _ (Same.refl _)
      rw [hc] at this
      exact this
end
end Z
set_option Elab.async false
set_option linter.all false
set_option autoImplicit false
set_option maxRecDepth 100000
set_option maxHeartbeats 4000000
namespace Z
open PySem PySem.Spec PyProof.Rows L2
theorem call_lenS {X : Cx} : CallR X (.builtin "len") (fun xs H Q => ∃ a S n, xs = [.ref a] ∧ H a = some (SetK X.prog X.w a S n) ∧ Q (.int n) H) := by
  intro pins s σ H xs us Q I r h
  obtain ⟨a, S, n, rfl, ha, q⟩ := h
  obtain ⟨u, rfl, rx⟩ := vals1 r
  cases rx
  obtain ⟨o, es, ep, t, h1, h2, h3, _, _, h6, h7, h8⟩ := setK_get I ha
  subst h8
  exact call_len_set h1 h2 h3 h7 (by have : (4096 : Nat) < 2 ^ 63 := by decide
                                     have := (show es.size < 4096 from h6); omega) ⟨.int es.size, H, I.tok _, ⟨s.toks + 1, rfl⟩, q⟩
def colName : PyData → Option Str
  | .tuple (.str z :: _) => some z
  | _ => none
/-- the number of names ahead of the first column that is none or has an earlier name -/
def vc : List Str → List PyData → Nat
  | seen, [] => seen.length
  | seen, d :: ds => if columnD d = true then (match colName d with
    | some z => if z ∈ seen then seen.length else vc (seen ++ [z]) ds
    | none => seen.length) else seen.length
theorem col_of {d : PyData} (h : columnD d = true) : ∃ z k, d = .tuple [.str z, .str k] ∧ nameS z = true ∧ kindS k = true := by
  unfold columnD at h
  split at h
  · rename_i a b
    rw [Bool.and_eq_true] at h
    obtain ⟨h1, h2⟩ := h
    cases a <;> first | (cases h1; done) | skip
    cases b <;> first | (cases h2; done) | skip
    exact ⟨_, _, rfl, h1, h2⟩
  · cases h
def spValid (K : PySem.W.Frag) : Sp := fun vs H Q _ => ∃ v ds, vs = [v] ∧ Da K H v (.tuple ds) ∧ ds.length ≤ 4000 ∧ ∀ H', Same H H' → Q (.int (vc [] ds : Nat)) H'
theorem drop_cons {α : Type} {l : List α} {i : Nat} {x : α} (h : l[i]? = some x) : l.drop i = x :: l.drop (i + 1) := by
  have hi := (List.getElem?_eq_some_iff.mp h).1
  have hx := (List.getElem?_eq_some_iff.mp h).2
  rw [List.drop_eq_getElem_cons hi, hx]
section
variable {P : Program} {w : World} {K : PySem.W.Frag} {mg : Str → Option Value} {base : Heap}
theorem kn_valid_columns (D : Def0 K mg "valid_columns" (top 24)) (T : Txt K mg) (F_is_column : Kn P w K mg base CX0 "is_column" 2 ["value"] [] (spD K columnD)) : Kn P w K mg base CX0 "valid_columns" 3 ["schema"] [] (spValid K) := by
  obtain ⟨f, fd, F, m⟩ := D
  have sc_ : FnScope ["schema", "names", "column"] ["schema"] (defScope (top 24)) := ⟨rfl, rfl, rfl, by decide +kernel, rfl, by decide +kernel, by decide +kernel⟩
  refine kn_of F m (F.ok sc_ (fun vs H Q E h => ?_) (fun cdv A outer s H vs Q E hr h => ?_)) (F.bindsN fun _ _ _ _ _ _ us hl => match us, hl with | [_], _ => rfl)
  · obtain ⟨v, ds, rfl, _⟩ := h; rfl
  · obtain ⟨v, ds, rfl, hd, hsz, q⟩ := h
    refine ⟨_, PSs.nox (pss_cons (ps_set (i := 1) sc_.nd rfl (by first | exact Or.inl rfl | exact Or.inr rfl) (pe_callTy0 cr_set0K (by rfl) T.z_set (by decide +kernel)))
      (pss_cons (ps_for PassesOwn.never rfl (k_tup (K := K) (pv 0)) (pg_name (i := 2) sc_.nd rfl (by first | exact Or.inl rfl | exact Or.inr rfl))
        (pss_cons (ps_if (PW.pt (pw_or (pt_not (pt_val (pe_own F_is_column hr (by first | decide | omega | (simp only [Nat.add_eq]; omega)) pass0 (pa_cons (pv 2) pa_nil)))) (pw_or1 (pt_cmpR or_sinK (pe_ix (k_ixT (K := K)) (pv 2) pe_int (fun _ _ => rfl)) (pv 1) (by rfl))))) (pss_one (ps_ret (pe_callB call_lenS (by rfl) T.z_len (by decide +kernel) (pa_cons (pv 1) pa_nil)))) pss_nil)
      (pss_one (ps_expr (pe_saddK (pv 1) (pa_cons (pe_ix (k_ixT (K := K)) (pv 2) pe_int (fun _ _ => rfl)) pa_nil))))))
      (pss_one (ps_ret (pe_callB call_lenS (by rfl) T.z_len (by decide +kernel) (pa_cons (pv 1) pa_nil)))))), ?_⟩
    cases hd with
    | @tup a xs _ hs hl =>
      have hlen := DaL.length hl
      refine ⟨rfl, fun p hp => ?_⟩
      have s1 : Same H (upd H p (SetK P w p (fun _ => false) 0)) := same_new hp
      refine ⟨_, rfl, a, rfl, ⟨_, same_t s1 hs⟩, for_tup (K := K) (a := a) (xs := xs) (fun i σ H' => ∃ (seen : List Str) (S : Key → Bool) (o : Option V), σ = [some (.ref a), some (.ref p), o] ∧ Same H H' ∧ H' p = some (SetK P w p S seen.length) ∧ (∀ z, S (.inr z) = decide (z ∈ seen)) ∧ seen.length ≤ i ∧ vc [] ds = vc seen (ds.drop i))
        ⟨[], _, none, rfl, s1, upd_same, fun z => by simp, Nat.le_refl _, rfl⟩ (fun i σ H' _ ⟨_, _, _, _, e, _⟩ => same_t e hs) ?_ ?_⟩
      · rintro i x σ H1 hx ⟨seen, S, o, rfl, e1, hp1, hS, hle, hvc⟩
        obtain ⟨d, hd1, hd2⟩ := DaL.get hl hx
        have hi := (List.getElem?_eq_some_iff.mp hx).1
        rw [drop_cons hd1] at hvc
        refine ⟨_, rfl, x, d, rfl, hd2.mono e1, fun H2 e2 => ⟨_, rfl, ?_⟩⟩
        have hp2 := e2 _ _ hp1
        by_cases hc : columnD d = true
        · obtain ⟨z, k, rfl, hz, hk⟩ := col_of hc
          rw [hc]
          refine iteF ?_
          cases hd2 with
          | @tup b ys _ hs2 hl2 =>
            cases hl2 with
            | @cons y0 _ _ _ hy0 hl3 =>
              cases hy0
              have hb2 := same_t (e1.trans e2) hs2
              refine ⟨_, rfl, _, _, _, _, rfl, rfl, hb2, atI_nat (j := 0) rfl, _, rfl, .inr z, p, S, _, rfl, rfl, hp2, _, rfl, ?_⟩
              have hv2 : vc [] ds = if z ∈ seen then seen.length else vc (seen ++ [z]) (ds.drop (i + 1)) := by
                rw [hvc, vc, if_pos hc]; rfl
              show (if S (.inr z) = true then _ else _)
              by_cases hm : z ∈ seen
              · rw [hS, decide_eq_true hm]
                refine iteT ?_
                refine ⟨_, rfl, p, S, _, rfl, hp2, ?_⟩
                rw [if_pos hm] at hv2
                have := q H2 (e1.trans e2)
                rw [hv2] at this
                exact this
              · rw [hS, decide_eq_false hm]
                refine iteF ?_
                refine ⟨_, rfl, ⟨p, S, _, rfl, hp2⟩, _, rfl, _, _, _, _, rfl, rfl, hb2, atI_nat (j := 0) rfl, p, .inr z, S, _, rfl, rfl, hp2, by show seen.length + 1 < 4096; omega, ?_⟩
                rw [if_neg hm] at hv2
                refine ⟨seen ++ [z], fun j => S j || decide (j = Sum.inr z), some (.ref b), rfl, ?_, ?_, fun z' => ?_, by simp; omega, hv2⟩
                · intro b' u' q'
                  rw [upd_ne (ne_of_none q' hp)]
                  exact (e1.trans e2) _ _ q'
                · rw [upd_same]
                  have : S (.inr z) = false := by rw [hS, decide_eq_false hm]
                  rw [this]
                  simp
                  rfl
                · show (S (.inr z') || decide ((Sum.inr z' : Key) = Sum.inr z)) = _
                  rw [hS, key_rr]
                  simp
        · have hcf : columnD d = false := by simpa using hc
          rw [hcf]
          refine iteT ?_
          refine ⟨_, rfl, p, S, _, rfl, hp2, ?_⟩
          have := q H2 (e1.trans e2)
          rw [hvc, vc, if_neg hc] at this
          exact this
      · rintro σ H1 ⟨seen, S, o, rfl, e1, hp1, hS, hle, hvc⟩
        refine ⟨_, rfl, p, S, _, rfl, hp1, ?_⟩
        have := q H1 e1
        rw [hvc, hlen, List.drop_length, vc] at this
        exact this
end
end Z
set_option Elab.async false
set_option linter.all false
set_option autoImplicit false
set_option maxRecDepth 100000
set_option maxHeartbeats 4000000
namespace Z
open PySem PySem.Spec PyProof.Rows L2
theorem walk_zipT {K : PySem.W.Frag} {a b : Addr} {xs ys : List V} {n : Nat} (hx : xs.length = n) (hy : ys.length = n) :
    Walk (RZ.ItzT K a b) n (fun H => SqT K H a xs ∧ SqT K H b ys) (YPair (fun i => xs[i]?) (fun i => ys[i]?)) where
  goes := fun i H hi ⟨h1, h2⟩ => ⟨xs, ys, xs[i]'(by omega), ys[i]'(by omega), h1, h2, List.getElem?_eq_getElem _, List.getElem?_eq_getElem _⟩
  stops := fun H ⟨h1, h2⟩ => ⟨xs, ys, h1, h2, .inl (by omega)⟩
  yields := fun i H x H' hi ⟨h1, h2⟩ ⟨t, u, v, e1, e2, e3, e4, e5⟩ => ⟨t, u, v, e1, e2, e3, e4 _ h1, e5 _ h2⟩
/-- columns as data -/
def colsD (cols : List (Str × Str)) : List PyData := cols.map fun c => .tuple [.str c.1, .str c.2]
def rowD (cols : List (Str × Str)) : PyData → Bool
  | .tuple ds => ds.length == cols.length && (cols.zip ds).all fun p => valueD p.1.2 p.2
  | _ => false
def spSchemaOk (K : PySem.W.Frag) : Sp := fun vs H Q _ => ∃ v ds, vs = [v] ∧ Da K H v (.tuple ds) ∧ ds ≠ [] ∧ ds.length ≤ 4000 ∧ vc [] ds = ds.length ∧ ∀ H', Same H H' → Q .non H'
def spRow (K : PySem.W.Frag) : Sp := fun vs H Q _ => ∃ v d u cols, vs = [v, u] ∧ Da K H v d ∧ Da K H u (.tuple (colsD cols)) ∧ cols.length ≤ 100000 ∧ ∀ H', Same H H' → Q (.bl (rowD cols d)) H'
section
variable {P : Program} {w : World} {K : PySem.W.Frag} {mg : Str → Option Value} {base : Heap}
theorem kn_check_schema (D : Def0 K mg "check_schema" (top 26)) (T : Txt K mg) (F_valid_columns : Kn P w K mg base CX0 "valid_columns" 3 ["schema"] [] (spValid K)) : Kn P w K mg base CX0 "check_schema" 4 ["schema"] [] (spSchemaOk K) := by
  obtain ⟨f, fd, F, m⟩ := D
  have sc_ : FnScope ["schema", "valid"] ["schema"] (defScope (top 26)) := ⟨rfl, rfl, rfl, by decide +kernel, rfl, by decide +kernel, by decide +kernel⟩
  refine kn_of F m (F.ok sc_ (fun vs H Q E h => ?_) (fun cdv A outer s H vs Q E hr h => ?_)) (F.bindsN fun _ _ _ _ _ _ us hl => match us, hl with | [_], _ => rfl)
  · obtain ⟨v, ds, rfl, _⟩ := h; rfl
  · obtain ⟨v, ds, rfl, hd, hne, hsz, hvc, q⟩ := h
    refine ⟨_, PSs.nox (pss_cons (ps_if (PW.pt (pw_or (pt_not (pt_val (pe_callB (k_isi (K := K)) (by rfl) T.z_isinstance (by decide +kernel) (pa_cons (pv 0) (pa_cons (pe_bltn (v := .ty "tuple") (by rfl) T.z_tuple (by decide +kernel) rfl) pa_nil))))) (pw_or1 (pt_cmpR op_eq (pe_callB (k_len (K := K)) (by rfl) T.z_len (by decide +kernel) (pa_cons (pv 0) pa_nil)) pe_int (nomark _))))) (pss_one ps_never) pss_nil)
      (pss_cons (ps_set (i := 1) sc_.nd rfl (by first | exact Or.inl rfl | exact Or.inr rfl) (pe_own F_valid_columns hr (by first | decide | omega | (simp only [Nat.add_eq]; omega)) pass0 (pa_cons (pv 0) pa_nil)))
      (pss_one (ps_if (pt_cmpR op_lt (pv 1) (pe_callB (k_len (K := K)) (by rfl) T.z_len (by decide +kernel) (pa_cons (pv 0) pa_nil)) (nomark _)) (pss_one ps_never) pss_nil)))), ?_⟩
    refine ⟨_, rfl, ?_⟩
    refine ⟨_, _, _, _, _, rfl, .ty _, Da.ty hd, kit_D _ "tuple" (by decide), ?_⟩
    refine ⟨_, rfl, ?_⟩
    cases hd with
    | @tup a xs _ hs hl =>
      have hlen := DaL.length hl
      have hpos : ds.length ≠ 0 := fun e => hne (List.eq_nil_of_length_eq_zero e)
      refine ⟨_, rfl, a, xs, rfl, .inr hs, rfl, _, rfl, ?_⟩
      rw [decide_eq_false (fun e => by injection e with e; omega)]
      refine iteF ?_
      refine ⟨_, rfl, _, ds, rfl, .tup hs hl, hsz, fun H1 e1 => ?_⟩
      refine ⟨_, rfl, _, rfl, a, xs, rfl, .inr (same_t e1 hs), _, _, rfl, rfl, _, rfl, ?_⟩
      rw [decide_eq_false (by omega)]
      exact q _ e1
theorem kn_is_row (D : Def0 K mg "is_row" (top 28)) (T : Txt K mg) (F_is_value : Kn P w K mg base CX0 "is_value" 2 ["kind", "value"] [] (spValue K)) : Kn P w K mg base CX0 "is_row" 3 ["value", "schema"] [] (spRow K) := by
  obtain ⟨f, fd, F, m⟩ := D
  have sc_ : FnScope ["value", "schema", "column", "item"] ["value", "schema"] (defScope (top 28)) := ⟨rfl, rfl, rfl, by decide +kernel, rfl, by decide +kernel, by decide +kernel⟩
  refine kn_of F m (F.ok sc_ (fun vs H Q E h => ?_) (fun cdv A outer s H vs Q E hr h => ?_)) (F.bindsN fun _ _ _ _ _ _ us hl => match us, hl with | [_, _], _ => rfl)
  · obtain ⟨v, d, u, cols, rfl, _⟩ := h; rfl
  · obtain ⟨v, d, u, cols, rfl, hd, hu, hsz, q⟩ := h
    refine ⟨_, PSs.nox (pss_cons (ps_if (PW.pt (pw_or (pt_not (pt_val (pe_callB (k_isi (K := K)) (by rfl) T.z_isinstance (by decide +kernel) (pa_cons (pv 0) (pa_cons (pe_bltn (v := .ty "tuple") (by rfl) T.z_tuple (by decide +kernel) rfl) pa_nil))))) (pw_or1 (pt_cmpR op_ne (pe_callB (k_len (K := K)) (by rfl) T.z_len (by decide +kernel) (pa_cons (pv 0) pa_nil)) (pe_callB (k_len (K := K)) (by rfl) T.z_len (by decide +kernel) (pa_cons (pv 1) pa_nil)) (nomark _))))) (pss_one (ps_ret pe_bl)) pss_nil)
      (pss_one (ps_ret (pe_callB (k_all (K := K) rfl) (by rfl) T.z_all (by decide +kernel) (pa_cons (pe_lc (own := [("column", 2), ("item", 3)]) (g := gTup K 2 (gCons (gName 2) (gCons (gName 3) gNil))) (by rfl) sc_.nd (k_zip (K := K) T.z_zip (pa_cons (pv 1) (pa_cons (pv 0) pa_nil))) (blkOk_by (N := ["value", "schema", "column", "item"]) (sc := defScope (top 28)) (by decide +kernel)) (fun _ _ _ _ _ => (k_pgT (K := K) (pgs_cons (pg_name (i := 2) sc_.nd rfl (by first | exact Or.inl rfl | exact Or.inr rfl)) (pgs_cons (pg_name (i := 3) sc_.nd rfl (by first | exact Or.inl rfl | exact Or.inr rfl)) pgs_nil)))) (fun _ _ _ _ _ => pts_nil) (fun _ _ _ _ _ => (pe_own F_is_value hr (by first | decide | omega | (simp only [Nat.add_eq]; omega)) pass0 (pa_cons (pe_ix (k_ixT (K := K)) (pv 2) pe_int (fun _ _ => rfl)) (pa_cons (pv 3) pa_nil))))) pa_nil))))), ?_⟩
    refine ⟨_, rfl, ?_⟩
    refine ⟨_, _, _, _, _, rfl, .ty _, Da.ty hd, kit_D _ "tuple" (by decide), ?_⟩
    refine ⟨_, rfl, ?_⟩
    cases d with
    | tuple ds =>
      cases hd with
      | @tup a xs _ hs hl =>
        have hlen := DaL.length hl
        cases hu with
        | @tup b ys _ ht hk =>
          have hlen2 := DaL.length hk
          have hcl : (colsD cols).length = cols.length := by simp [colsD]
          refine ⟨_, rfl, a, xs, rfl, .inr hs, _, rfl, b, ys, rfl, .inr ht, rfl, _, rfl, ?_⟩
          by_cases he : ds.length = cols.length
          · rw [decide_eq_true (show V.int ((xs.length : Nat) : Int) = V.int ((ys.length : Nat) : Int) by rw [hlen, hlen2, hcl, he])]
            refine iteF ?_
            refine ⟨_, rfl, _, rfl, b, a, ys, xs, rfl, .inr ⟨ht, hs, fun D hD => lc_ok (walk_zipT (K := K) (n := cols.length) (by omega) (by omega)) (fun i y _ => ∃ c, (cols.zip ds)[i]? = some c ∧ y = .bl (valueD c.1.2 c.2)) hD (Nat.lt_of_le_of_lt hsz (by decide)) (fun H1 e => ⟨same_t e ht, same_t e hs⟩) (fun _ _ _ _ _ _ h => h) (fun _ _ _ _ h => ?_) ?_ ?_⟩⟩
            · obtain ⟨t, x, y, _, h0, rfl, _⟩ := h
              exact same_new h0
            · rintro i x H1 H' hi s1 ⟨t, x, y, rfl, h0, rfl, hx, hy⟩ Q' k
              have s2 := s1.trans (same_new h0 (o := .tup [x, y]))
              obtain ⟨dx, hdx, hax⟩ := DaL.get hk hx
              obtain ⟨dy, hdy, hay⟩ := DaL.get hl hy
              rw [colsD, List.getElem?_map, Option.map_eq_some_iff] at hdx
              obtain ⟨c, hc, rfl⟩ := hdx
              refine ⟨t, [x, y], rfl, SqT.of upd_same, rfl, x, [y], rfl, y, [], rfl, rfl, rfl, ?_⟩
              cases hax with
              | @tup r zs _ hr1 hr2 =>
                cases hr2 with
                | cons h1 h2 =>
                  cases h2 with
                  | cons h3 h4 =>
                    cases h4
                    cases h3
                    refine ⟨_, rfl, r, _, _, _, rfl, rfl, same_t s2 hr1, atI_nat (j := 1) rfl, _, rfl, _, _, dy, rfl, hay.mono s2, fun H3 e3 => k _ _ e3 ⟨(c, dy), ?_, rfl⟩⟩
                    rw [List.getElem?_zip_eq_some]
                    exact ⟨hc, hdy⟩
            · intro H1 acc s1 hacc hl1 hr1
              have e : acc = ((cols.zip ds).map fun c => valueD c.1.2 c.2).map V.bl := by
                rw [List.map_map]
                exact map_of (by rw [hl1, List.length_zip]; omega) hr1
              refine ⟨_, _, rfl, SqL.of (by rw [hacc, e]), ?_⟩
              have := q H1 s1
              rw [show rowD cols (.tuple ds) = ((cols.zip ds).map fun c => valueD c.1.2 c.2).all id from by simp only [rowD]; rw [he, List.all_map]; simp] at this
              exact this
          · rw [decide_eq_false (show ¬ V.int ((xs.length : Nat) : Int) = V.int ((ys.length : Nat) : Int) by intro e; injection e with e; omega)]
            refine iteT ?_
            have := q _ (Same.refl _)
            rw [show rowD cols (.tuple ds) = false from by simp [rowD, he]] at this
            exact this
    | _ => exact q _ (Same.refl _)
end
end Z
set_option Elab.async false
set_option linter.all false
set_option autoImplicit false
set_option maxRecDepth 100000
set_option maxHeartbeats 4000000
namespace Z
open PySem PySem.Spec PyProof.Rows L2
structure PropK (P : Program) (w : World) (K : PySem.W.Frag) (mg : Str → Option Value) (base : Heap) (C : Addr) (f : Str) (k : Nat) (sp : Sp) : Prop where
  ex : ∃ p g fd, PropOf K C f p g ∧ FnOk P w K mg base CX0 k g fd ["self"] sp ∧ Binds K fd ["self"] []
structure MakeK (P : Program) (w : World) (K : PySem.W.Frag) (mg : Str → Option Value) (base : Heap) (x : Str) (C : Addr) (k : Nat) (ps : List Str) (sp : Sp) : Prop where
  ex : ∃ f fd, mg x = some (.ref C) ∧ Mk K C f ∧ FnOk P w K mg base CX0 k f fd ps sp ∧ Binds K fd ps []
structure MethK (P : Program) (w : World) (K : PySem.W.Frag) (mg : Str → Option Value) (base : Heap) (C : Addr) (m : Str) (k : Nat) (ps : List Str) (sp : Sp) : Prop where
  ex : ∃ f fd, Meth K C m f ∧ FnOk P w K mg base CX0 k f fd ps sp ∧ Binds K fd ps []
section
variable {X : Cx} {K : PySem.W.Frag} {x f m : Str} {C : Addr} {k j : Nat} {ps : List Str} {sp : Sp} {e o : Expr} {es : List Expr} {t : TA} {ta : TE} {p pos apos : Pos}
theorem pe_propK (he : PE X e ta) (c : Cls K C) (F : PropK X.prog X.w K X.mg X.base C f k sp) (hr : Room j X.A) (hkj : k + 1 ≤ j) (hK : X.K = K := by rfl) (hab : attributeBase e f X.env (eval e X.env) = eval e X.env := by rfl) :
    PE X (.Attribute e f pos) (tProp C sp [] E0 ta) := by
  subst hK
  obtain ⟨p, g, fd, h1, h2, h3⟩ := F.ex
  exact pe_prop he c h1 h2 (hr.mono hkj) h3 .nil pass0 hab
theorem pe_makeK (F : MakeK X.prog X.w X.K X.mg X.base x C k ps sp) (hr : Room j X.A) (hkj : k + 1 ≤ j) (ha : PA X (e :: es) t) (hg : Gl X x := by rfl) (hdb : (x == ("__debug__" : Str)) = false := by decide)
    (he : starEach (e :: es) X.env = (false, eval e X.env) :: starEach es X.env := by rfl) (hpl : (backTo pos (starEach es X.env)).any (·.1) = false := by rfl) : PE X (.Call (.Name x p) (e :: es) [] pos) (tMake C sp [] E0 t) := by
  obtain ⟨f, fd, h0, h1, h2, h3⟩ := F.ex
  exact pe_make h1 h2 (hr.mono hkj) hg h0 h3 .nil pass0 ha hdb he hpl
theorem pe_methK0 (he : PE X o ta) (c : Cls K C) (F : MethK X.prog X.w K X.mg X.base C m k ps sp) (hr : Room j X.A) (hkj : k ≤ j) (hK : X.K = K := by rfl) {pl : Sem Bool}
    (ht : eval (.Call (.Attribute o m apos) [] [] pos) X.env = (do let ov ← eval o X.env; standAt apos.atName; let (f, first) ← holding [ov] (getMethod ov m pl); callWith pos f first (backTo pos (starEach [] X.env)) (backToKw pos (keywordEach [] X.env))) := by rfl) :
    PE X (.Call (.Attribute o m apos) [] [] pos) (tMeth C m sp [] E0 ta tNil) := by
  subst hK
  obtain ⟨f, fd, h1, h2, h3⟩ := F.ex
  exact pe_meth0 he c h1 h2 (hr.mono hkj) h3 .nil pass0 ht
end
/-! a frame: its two fields -/
def frF (s r : V) : List (Str × V) := putF "_rows" r (putF "_schema" s [])
theorem sr_ne : ¬ (("_schema" : Str) = "_rows") := by decide +kernel
theorem frF_s (s r : V) : (frF s r).lookup ("_schema" : Str) = some s := by
  unfold frF; rw [lookup_putF, if_neg sr_ne, lookup_putF, if_pos rfl]
theorem frF_r (s r : V) : (frF s r).lookup ("_rows" : Str) = some r := by
  unfold frF; rw [lookup_putF, if_pos rfl]
theorem frF_no (s r : V) {m : Str} (h1 : ¬ m = "_rows") (h2 : ¬ m = "_schema") : (frF s r).lookup m = none := by
  unfold frF; rw [lookup_putF, if_neg h1, lookup_putF, if_neg h2]; rfl
structure FrT (K : PySem.W.Frag) (C : Addr) : Prop where
  cl : Cls K C
  nS : NoAttr K C "_schema"
  nR : NoAttr K C "_rows"
def spRows (K : PySem.W.Frag) : Sp := fun vs H Q _ => ∃ v ls u cols, vs = [v, u] ∧ Da K H v (.tuple ls) ∧ Da K H u (.tuple (colsD cols)) ∧ cols.length ≤ 100000 ∧ ls.length ≤ 100000 ∧ (∀ d ∈ ls, rowD cols d = true) ∧ ∀ H', Same H H' → Q .non H'
/-- a schema's columns: names, kinds, no name twice -/
def colsOk (cols : List (Str × Str)) : Prop := cols ≠ [] ∧ cols.length ≤ 4000 ∧ (∀ c ∈ cols, nameS c.1 = true ∧ kindS c.2 = true) ∧ (cols.map (·.1)).Nodup
theorem vc_ok : ∀ (cols : List (Str × Str)) (seen : List Str), (∀ c ∈ cols, nameS c.1 = true ∧ kindS c.2 = true) → (cols.map (·.1)).Nodup → (∀ c ∈ cols, c.1 ∉ seen) → vc seen (colsD cols) = seen.length + cols.length
  | [], seen, _, _, _ => by simp [colsD, vc]
  | c :: cols, seen, h, nd, hs => by
    have h1 := h c (List.mem_cons_self ..)
    have nd1 := List.nodup_cons.mp (show (c.1 :: cols.map (·.1)).Nodup from nd)
    have ih := vc_ok cols (seen ++ [c.1]) (fun d hd => h d (List.mem_cons_of_mem _ hd)) nd1.2 (fun d hd q => by
      rcases List.mem_append.mp q with q | q
      · exact hs d (List.mem_cons_of_mem _ hd) q
      · simp at q; exact nd1.1 (List.mem_map.mpr ⟨d, hd, q⟩))
    show vc seen (.tuple [.str c.1, .str c.2] :: colsD cols) = _
    rw [vc, if_pos (by simp [columnD, nameD, kindD, h1])]
    show (if c.1 ∈ seen then _ else _) = _
    rw [if_neg (hs c (List.mem_cons_self ..)), ih]
    simp; omega
def spInit (K : PySem.W.Frag) (C : Addr) : Sp := fun vs H Q _ => ∃ x dx s r cols ls, vs = [.ref x, s, r] ∧ H x = some (.ins C dx []) ∧ Da K H s (.tuple (colsD cols)) ∧ Da K H r (.tuple ls) ∧ colsOk cols ∧ ls.length ≤ 100000 ∧ (∀ d ∈ ls, rowD cols d = true) ∧
  ∀ H', (∀ b o, b ≠ x → H b = some o → H' b = some o) → H' x = some (.ins C dx (frF s r)) → Q .non H'
section
variable {P : Program} {w : World} {K : PySem.W.Frag} {mg : Str → Option Value} {base : Heap} {C : Addr}
theorem kn_check_rows (D : Def0 K mg "check_rows" (top 29)) (T : Txt K mg) (F_is_row : Kn P w K mg base CX0 "is_row" 3 ["value", "schema"] [] (spRow K)) : Kn P w K mg base CX0 "check_rows" 4 ["rows", "schema"] [] (spRows K) := by
  obtain ⟨f, fd, F, m⟩ := D
  have sc_ : FnScope ["rows", "schema", "index", "row"] ["rows", "schema"] (defScope (top 29)) := ⟨rfl, rfl, rfl, by decide +kernel, rfl, by decide +kernel, by decide +kernel⟩
  refine kn_of F m (F.ok sc_ (fun vs H Q E h => ?_) (fun cdv A outer s H vs Q E hr h => ?_)) (F.bindsN fun _ _ _ _ _ _ us hl => match us, hl with | [_, _], _ => rfl)
  · obtain ⟨v, ls, u, cols, rfl, _⟩ := h; rfl
  · obtain ⟨v, ls, u, cols, rfl, hd, hu, hsz, hls, hok, q⟩ := h
    refine ⟨_, PSs.nox (pss_cons (ps_if (pt_not (pt_val (pe_callB (k_isi (K := K)) (by rfl) T.z_isinstance (by decide +kernel) (pa_cons (pv 0) (pa_cons (pe_bltn (v := .ty "tuple") (by rfl) T.z_tuple (by decide +kernel) rfl) pa_nil))))) (pss_one ps_never) pss_nil)
      (pss_one (ps_for PassesOwn.never rfl (pi_enumT (K := K) T.z_enumerate (pa_cons (pv 0) pa_nil)) (k_pgT (K := K) (pgs_cons (pg_name (i := 2) sc_.nd rfl (by first | exact Or.inl rfl | exact Or.inr rfl)) (pgs_cons (pg_name (i := 3) sc_.nd rfl (by first | exact Or.inl rfl | exact Or.inr rfl)) pgs_nil)))
        (pss_one (ps_if (pt_not (pt_val (pe_own F_is_row hr (by first | decide | omega | (simp only [Nat.add_eq]; omega)) pass0 (pa_cons (pv 3) (pa_cons (pv 1) pa_nil))))) (pss_one ps_never) pss_nil))))), ?_⟩
    refine ⟨_, rfl, ?_⟩
    refine ⟨_, _, _, _, _, rfl, .ty _, Da.ty hd, kit_D _ "tuple" (by decide), ?_⟩
    refine ⟨_, rfl, ?_⟩
    cases hd with
    | @tup a xs _ hs hl =>
      refine ⟨_, rfl, a, xs, rfl, hs, for_it (walk_enumT (K := K) (xs := xs)) (fun i σ H' => ∃ o1 o2, σ = [some (.ref a), some u, o1, o2] ∧ Same H H') ⟨none, none, rfl, Same.refl _⟩ (fun i σ H' _ ⟨_, _, _, e⟩ => same_t e hs) ?_ ?_⟩
      · rintro i x σ H1 H2 hi ⟨o1, o2, rfl, e1⟩ ⟨t, y1, y, rfl, h0, rfl, h1, hy⟩
        cases h1
        obtain ⟨d, hd1, hd2⟩ := DaL.get hl hy
        have e2 := e1.trans (same_new h0 (o := .tup [.int (i : Nat), y]))
        refine ⟨t, _, rfl, SqT.of upd_same, rfl, _, _, rfl, _, _, rfl, rfl, ?_⟩
        refine ⟨_, rfl, _, rfl, y, d, u, cols, rfl, hd2.mono e2, hu.mono e2, hsz, fun H3 e3 => ?_⟩
        rw [hok d (List.mem_of_getElem? hd1)]
        exact ⟨_, rfl, some (.int (i : Nat)), some y, rfl, e2.trans e3⟩
      · rintro σ H1 ⟨o1, o2, rfl, e1⟩
        exact q _ e1
theorem mk_Frame {f : Addr} {fd : FuncData} {dv : V} (F : FunD K "__init__" "Frame.__init__" (defArgs (inClass (top 46) 0)) (defBody (inClass (top 46) 0)) (defScope (inClass (top 46) 0)) [dv] [] f fd) (hC : mg "Frame" = some (.ref C)) (M : Mk K C f) (TF : FrT K C)
    (F_check_schema : Kn P w K mg base CX0 "check_schema" 4 ["schema"] [] (spSchemaOk K)) (F_check_rows : Kn P w K mg base CX0 "check_rows" 4 ["rows", "schema"] [] (spRows K)) : MakeK P w K mg base "Frame" C 5 ["self", "schema", "rows"] (spInit K C) := by
  have sc_ : FnScope ["self", "schema", "rows"] ["self", "schema", "rows"] (defScope (inClass (top 46) 0)) := ⟨rfl, rfl, rfl, by decide +kernel, rfl, by decide +kernel, by decide +kernel⟩
  obtain ⟨ds, vd, b⟩ := F.binds1 (ps := ["self", "schema", "rows"]) 3 1 (by simp) rfl fun _ _ _ _ _ _ _ us its hl hl2 => match us, its, hl, hl2 with | [_, _, _], [_], _, _ => ⟨_, rfl, rfl⟩
  have ed : ds = [] := by cases vd; rfl
  subst ed
  refine ⟨f, fd, hC, M, F.ok sc_ (fun vs H Q E h => ?_) (fun cdv A outer s H vs Q E hr h => ?_), b⟩
  · obtain ⟨x, dx, s, r, cols, ls, rfl, _⟩ := h; rfl
  · obtain ⟨x, dx, sc, r, cols, ls, rfl, hx, hs, hr1, hc, hls, hok, q⟩ := h
    refine ⟨_, PSs.nox (pss_cons (ps_expr (pe_own F_check_schema hr (by first | decide | omega | (simp only [Nat.add_eq]; omega)) pass0 (pa_cons (pv 1) pa_nil)))
      (pss_cons (ps_expr (pe_own F_check_rows hr (by first | decide | omega | (simp only [Nat.add_eq]; omega)) pass0 (pa_cons (pv 2) (pa_cons (pv 1) pa_nil))))
      (pss_cons (ps_fld (pv 0) (pv 1) rfl)
      (pss_one (ps_fld (pv 0) (pv 2) rfl))))), ?_⟩
    have hcl : (colsD cols).length = cols.length := by simp [colsD]
    refine ⟨_, rfl, sc, colsD cols, rfl, hs, (by intro e; exact hc.1 (by simpa [colsD] using e)), by rw [hcl]; exact hc.2.1, by rw [vc_ok cols [] hc.2.2.1 hc.2.2.2 (fun _ _ q => by cases q)]; simp [colsD], fun H1 e1 => ?_⟩
    refine ⟨_, rfl, _, rfl, r, ls, sc, cols, rfl, hr1.mono e1, hs.mono e1, Nat.le_trans hc.2.1 (by decide), hls, hok, fun H2 e2 => ?_⟩
    have hx2 := (e1.trans e2) _ _ hx
    refine ⟨_, rfl, _, rfl, x, C, dx, [], rfl, hx2, TF.cl, TF.nS, (by show 0 < 1000; decide), ?_⟩
    refine ⟨_, rfl, _, rfl, x, C, dx, _, rfl, upd_same, TF.cl, TF.nR, (by show 1 < 1000; decide), ?_⟩
    refine q _ (fun b' o hb hq => ?_) upd_same
    rw [upd_ne hb, upd_ne hb]
    exact (e1.trans e2) _ _ hq
end
end Z
set_option Elab.async false
set_option linter.all false
set_option autoImplicit false
set_option maxRecDepth 100000
set_option maxHeartbeats 4000000
namespace Z
open PySem PySem.Spec PyProof.Rows L2
def scalD : PyData → Bool
  | .none => true | .bool _ => true | .int _ => true | .str _ => true | _ => false
def smallD : PyData → Prop
  | .int i => i.natAbs.log2 < 1920 ∧ (Str.ofString (toString i)).length ≤ 1000 ∧ PyData.strOk (Str.ofString (toString i)) = true
  | .str z => z.length ≤ 1000 ∧ PyData.strOk z = true
  | _ => True
def truthS (b : Bool) : Str := if b = true then "yes" else "no"
def cellS : PyData → Str
  | .none => Txt.ljust "-" 10
  | .bool b => Txt.ljust (truthS b) 10
  | .int i => Txt.rjust (Str.ofString (toString i)) 10
  | .str z => Txt.ljust z 10
  | _ => ""
def lineS (ds : List PyData) : Str := Txt.join " " (ds.map cellS)
def headD (cols : List (Str × Str)) : List PyData := cols.map fun c => .str c.1
def tableS (cols : List (Str × Str)) (ls : List (List PyData)) : Str := Txt.join "\n" (lineS (headD cols) :: ls.map lineS)
theorem ljust_len (z : Str) : (Txt.ljust z 10).length ≤ z.length + 10 := by
  unfold Txt.ljust
  split
  · omega
  · simp [Builtin.Str.padded, Str.length]
    try omega
theorem rjust_len (z : Str) : (Txt.rjust z 10).length ≤ z.length + 10 := by
  unfold Txt.rjust
  split
  · omega
  · simp [Builtin.Str.padded, Str.length]
    try omega
theorem cell_len {d : PyData} (h : smallD d) : (cellS d).length ≤ 1010 := by
  cases d with
  | none => exact Nat.le_trans (ljust_len _) (by decide)
  | bool b => cases b <;> exact Nat.le_trans (ljust_len _) (by decide)
  | int i => exact Nat.le_trans (rjust_len _) (by have := h.2.1; omega)
  | str z => exact Nat.le_trans (ljust_len _) (by have : z.length ≤ 1000 := h.1; omega)
  | _ => exact Nat.zero_le _
theorem sum_le {l : List Str} {n : Nat} (h : ∀ z ∈ l, z.length ≤ n) : (l.map (·.length)).sum ≤ l.length * n := by
  induction l with
  | nil => simp
  | cons a l ih =>
    have h1 := h a (List.mem_cons_self ..)
    have h2 := ih fun z hz => h z (List.mem_cons_of_mem _ hz)
    simp only [List.map_cons, List.sum_cons, List.length_cons]
    have : (l.length + 1) * n = l.length * n + n := by rw [Nat.add_mul, Nat.one_mul]
    omega
theorem sdrop_le (l : List Str) (k : Nat) : ∀ (acc : Array Nat) (n : Nat) (g : Str), (∀ z ∈ l, z.length ≤ n) → (l.foldl (fun acc p => acc ++ g.cps ++ p.cps) acc).size ≤ acc.size + l.length * (g.length + n) := by
  intro acc n g h
  induction l generalizing acc with
  | nil => simp
  | cons a l ih =>
    have h1 := h a (List.mem_cons_self ..)
    have h2 := ih (acc ++ g.cps ++ a.cps) fun z hz => h z (List.mem_cons_of_mem _ hz)
    simp only [List.foldl_cons, List.length_cons]
    have : (l.length + 1) * (g.length + n) = l.length * (g.length + n) + (g.length + n) := by rw [Nat.add_mul, Nat.one_mul]
    simp only [Array.size_append] at h2
    have e1 : g.cps.size = g.length := rfl
    have e2 : a.cps.size = a.length := rfl
    omega
theorem join_len {l : List Str} {n : Nat} {g : Str} (h : ∀ z ∈ l, z.length ≤ n) : (Txt.join g l).length ≤ n + l.length * (g.length + n) := by
  cases l with
  | nil => simp [Txt.join, Builtin.Str.glued, Str.length, Str.empty]
  | cons a l =>
    have h1 := h a (List.mem_cons_self ..)
    have h2 := sdrop_le l 0 a.cps n g fun z hz => h z (List.mem_cons_of_mem _ hz)
    simp only [Txt.join, Builtin.Str.glued, List.drop_succ_cons, List.drop_zero, List.headD_cons, List.length_cons]
    show Array.size (l.foldl (fun acc p => acc ++ g.cps ++ p.cps) a.cps) ≤ _
    have e2 : a.cps.size = a.length := rfl
    have : (l.length + 1) * (g.length + n) = l.length * (g.length + n) + (g.length + n) := by rw [Nat.add_mul, Nat.one_mul]
    omega
def spTruth : Sp := fun vs H Q _ => ∃ b, vs = [.bl b] ∧ Q (.str (truthS b)) H
def spCell (K : PySem.W.Frag) : Sp := fun vs H Q _ => ∃ v d, vs = [v] ∧ Da K H v d ∧ scalD d = true ∧ smallD d ∧ Q (.str (cellS d)) H
def spLine (K : PySem.W.Frag) : Sp := fun vs H Q _ => ∃ v ds, vs = [v] ∧ Da K H v (.tuple ds) ∧ (∀ d ∈ ds, scalD d = true ∧ smallD d) ∧ ds.length ≤ 1000 ∧ ∀ H', Same H H' → Q (.str (lineS ds)) H'
def spNames (K : PySem.W.Frag) (C : Addr) : Sp := fun vs H Q _ => ∃ a dx s r cols, vs = [.ref a] ∧ H a = some (.ins C dx (frF s r)) ∧ Da K H s (.tuple (colsD cols)) ∧ cols.length ≤ 100000 ∧ ∀ p H', Same H H' → H' p = some (.tup (cols.map fun c => .str c.1)) → Q (.ref p) H'
section
variable {P : Program} {w : World} {K : PySem.W.Frag} {mg : Str → Option Value} {base : Heap} {C : Addr}
theorem kn_truth_text (D : Def0 K mg "truth_text" (top 32)) (T : Txt K mg) : Kn P w K mg base CX0 "truth_text" 1 ["value"] [] spTruth := by
  obtain ⟨f, fd, F, m⟩ := D
  have sc_ : FnScope ["value"] ["value"] (defScope (top 32)) := ⟨rfl, rfl, rfl, by decide +kernel, rfl, by decide +kernel, by decide +kernel⟩
  refine kn_of F m (F.ok sc_ (fun vs H Q E h => ?_) (fun cdv A outer s H vs Q E hr h => ?_)) (F.bindsN fun _ _ _ _ _ _ us hl => match us, hl with | [_], _ => rfl)
  · obtain ⟨b, rfl, _⟩ := h; rfl
  · obtain ⟨b, rfl, q⟩ := h
    refine ⟨_, PSs.nox (pss_one (ps_ret (pe_ifExp (pt_val (pv 0)) pe_str pe_str))), ?_⟩
    refine ⟨_, rfl, _, rfl, ?_⟩
    cases b <;> exact q
theorem kn_table_cell (D : Def0 K mg "table_cell" (top 37)) (T : Txt K mg) (F_truth_text : Kn P w K mg base CX0 "truth_text" 1 ["value"] [] spTruth) : Kn P w K mg base CX0 "table_cell" 2 ["value"] [] (spCell K) := by
  obtain ⟨f, fd, F, m⟩ := D
  have sc_ : FnScope ["value"] ["value"] (defScope (top 37)) := ⟨rfl, rfl, rfl, by decide +kernel, rfl, by decide +kernel, by decide +kernel⟩
  refine kn_of F m (F.ok sc_ (fun vs H Q E h => ?_) (fun cdv A outer s H vs Q E hr h => ?_)) (F.bindsN fun _ _ _ _ _ _ us hl => match us, hl with | [_], _ => rfl)
  · obtain ⟨v, d, rfl, _⟩ := h; rfl
  · obtain ⟨v, d, rfl, hd, hs, hz, q⟩ := h
    refine ⟨_, PSs.nox (pss_cons (ps_if (pt_cmpR op_isN (pv 0) pe_non (nomark _)) (pss_one (ps_ret (k_bm (K := K) PySem.F.plainAttrs_str PySem.F.slot_str_ljust PySem.F.type_str_ljust mt_ljust pe_str (pa_cons (pe_gv T.c_CELL_WIDTH) pa_nil)))) pss_nil)
      (pss_cons (ps_if (pt_val (pe_callB (k_isi (K := K)) (by rfl) T.z_isinstance (by decide +kernel) (pa_cons (pv 0) (pa_cons (pe_bltn (v := .ty "bool") (by rfl) T.z_bool (by decide +kernel) rfl) pa_nil)))) (pss_one (ps_ret (k_bm (K := K) PySem.F.plainAttrs_str PySem.F.slot_str_ljust PySem.F.type_str_ljust mt_ljust (pe_own F_truth_text hr (by first | decide | omega | (simp only [Nat.add_eq]; omega)) pass0 (pa_cons (pv 0) pa_nil)) (pa_cons (pe_gv T.c_CELL_WIDTH) pa_nil)))) pss_nil)
      (pss_cons (ps_if (pt_val (pe_callB (k_isi (K := K)) (by rfl) T.z_isinstance (by decide +kernel) (pa_cons (pv 0) (pa_cons (pe_bltn (v := .ty "int") (by rfl) T.z_int (by decide +kernel) rfl) pa_nil)))) (pss_one (ps_ret (k_bm (K := K) PySem.F.plainAttrs_str PySem.F.slot_str_rjust PySem.F.type_str_rjust mt_rjust (pe_callTy call_str_int (by rfl) T.z_str (by decide +kernel) (pa_cons (pv 0) pa_nil)) (pa_cons (pe_gv T.c_CELL_WIDTH) pa_nil)))) pss_nil)
      (pss_one (ps_ret (k_bm (K := K) PySem.F.plainAttrs_str PySem.F.slot_str_ljust PySem.F.type_str_ljust mt_ljust (pv 0) (pa_cons (pe_gv T.c_CELL_WIDTH) pa_nil))))))), ?_⟩
    refine ⟨_, rfl, rfl, _, rfl, ?_⟩
    have hd0 := hd
    cases hd with
    | non => exact ⟨rfl, _, _, rfl, rfl, by decide +kernel, q⟩
    | bl b =>
      refine iteF ?_
      refine ⟨_, rfl, ?_⟩
      refine ⟨_, _, _, _, _, rfl, .ty _, Da.ty hd0, kit_D _ "bool" (by decide), ?_⟩
      refine ⟨_, rfl, iteT ?_⟩
      exact ⟨_, rfl, b, rfl, rfl, _, _, rfl, rfl, by decide +kernel, q⟩
    | int i =>
      refine iteF ?_
      refine ⟨_, rfl, ?_⟩
      refine ⟨_, _, _, _, _, rfl, .ty _, Da.ty hd0, kit_D _ "bool" (by decide), ?_⟩
      refine ⟨_, rfl, iteF ?_⟩
      refine ⟨_, rfl, ?_⟩
      refine ⟨_, _, _, _, _, rfl, .ty _, Da.ty hd0, kit_D _ "int" (by decide), ?_⟩
      refine ⟨_, rfl, iteT ?_⟩
      exact ⟨_, rfl, i, rfl, hz.1, rfl, _, _, rfl, rfl, by decide +kernel, q⟩
    | str z hz1 =>
      refine iteF ?_
      refine ⟨_, rfl, ?_⟩
      refine ⟨_, _, _, _, _, rfl, .ty _, Da.ty hd0, kit_D _ "bool" (by decide), ?_⟩
      refine ⟨_, rfl, iteF ?_⟩
      refine ⟨_, rfl, ?_⟩
      refine ⟨_, _, _, _, _, rfl, .ty _, Da.ty hd0, kit_D _ "int" (by decide), ?_⟩
      refine ⟨_, rfl, iteF ?_⟩
      exact ⟨_, rfl, rfl, z, _, rfl, rfl, by decide +kernel, q⟩
    | _ => cases hs
theorem kn_table_line (D : Def0 K mg "table_line" (top 38)) (T : Txt K mg) (F_table_cell : Kn P w K mg base CX0 "table_cell" 2 ["value"] [] (spCell K)) : Kn P w K mg base CX0 "table_line" 3 ["values"] [] (spLine K) := by
  obtain ⟨f, fd, F, m⟩ := D
  have sc_ : FnScope ["values", "value"] ["values"] (defScope (top 38)) := ⟨rfl, rfl, rfl, by decide +kernel, rfl, by decide +kernel, by decide +kernel⟩
  refine kn_of F m (F.ok sc_ (fun vs H Q E h => ?_) (fun cdv A outer s H vs Q E hr h => ?_)) (F.bindsN fun _ _ _ _ _ _ us hl => match us, hl with | [_], _ => rfl)
  · obtain ⟨v, ds, rfl, _⟩ := h; rfl
  · obtain ⟨v, ds, rfl, hd, hs, hn, q⟩ := h
    refine ⟨_, PSs.nox (pss_one (ps_ret (k_join (K := K) pe_str (pe_lc (own := [("value", 1)]) (g := gName 1) (by rfl) sc_.nd (k_tup (K := K) (pv 0)) (blkOk_by (N := ["values", "value"]) (sc := defScope (top 38)) (by decide +kernel)) (fun _ _ _ _ _ => (pg_name (i := 1) sc_.nd rfl (by first | exact Or.inl rfl | exact Or.inr rfl))) (fun _ _ _ _ _ => pts_nil) (fun _ _ _ _ _ => (pe_own F_table_cell hr (by first | decide | omega | (simp only [Nat.add_eq]; omega)) pass0 (pa_cons (pv 1) pa_nil))))))), ?_⟩
    cases hd with
    | @tup a xs _ ha hl =>
      have hlen := DaL.length hl
      refine ⟨⟨_, rfl⟩, _, rfl, a, rfl, ⟨_, ha⟩, fun D hD => lc_ok (walk_tup (K := K) (xs := xs)) (fun i y _ => ∃ d, ds[i]? = some d ∧ y = .str (cellS d)) hD (by rw [hlen]; exact Nat.lt_of_le_of_lt hn (by decide)) (fun H1 e => same_t e ha) (fun _ _ _ _ _ _ h => h) (fun _ _ _ _ h => by rw [h.1]; exact Same.refl _) ?_ ?_⟩
      · rintro i x H1 H' hi s1 ⟨rfl, hx⟩ Q' k
        obtain ⟨d, hd1, hd2⟩ := DaL.get hl hx
        have hm := hs d (List.mem_of_getElem? hd1)
        exact ⟨rfl, _, rfl, x, d, rfl, hd2.mono s1, hm.1, hm.2, k _ _ (Same.refl _) ⟨d, hd1, rfl⟩⟩
      · intro H1 acc s1 hacc hl1 hr1
        have e : acc = (ds.map cellS).map V.str := by
          rw [List.map_map]
          exact map_of (by omega) hr1
        have hb : ∀ z ∈ ds.map cellS, z.length ≤ 1010 := fun z hz => by
          obtain ⟨d, hd, rfl⟩ := List.mem_map.mp hz
          exact cell_len (hs d hd).2
        refine ⟨_, D, ds.map cellS, rfl, rfl, .inl (SqL.of (by rw [hacc, e])), ?_, q H1 s1⟩
        have h1 := sum_le hb
        have e2 : (" " : Str).length = 1 := by decide +kernel
        rw [e2]
        have e3 : (ds.map cellS).length = ds.length := List.length_map ..
        have h4 : ds.length * 1010 ≤ 1000 * 1010 := Nat.mul_le_mul_right _ hn
        rw [e3] at h1 ⊢
        omega
end
end Z
set_option Elab.async false
set_option linter.all false
set_option autoImplicit false
set_option maxRecDepth 100000
set_option maxHeartbeats 4000000
namespace Z
open PySem PySem.Spec PyProof.Rows L2
def spNamesOf (K : PySem.W.Frag) : Sp := fun vs H Q _ => ∃ v cols, vs = [v] ∧ Da K H v (.tuple (colsD cols)) ∧ cols.length ≤ 100000 ∧ ∀ l H', Same H H' → H' l = some (.tup (cols.map fun c => V.str c.1)) → Q (.ref l) H'
def FunM (K : PySem.W.Frag) (m q : Str) (st : Stmt) (f : Addr) : Prop := ∃ fd, FunD K m q (defArgs st) (defBody st) (defScope st) [] [] f fd
def rowsD (ls : List (List PyData)) : List PyData := ls.map PyData.tuple
def spTable (K : PySem.W.Frag) (C : Addr) : Sp := fun vs H Q _ => ∃ a dx s r cols ls, vs = [.ref a] ∧ H a = some (.ins C dx (frF s r)) ∧ Da K H s (.tuple (colsD cols)) ∧ Da K H r (.tuple (rowsD ls)) ∧ cols.length ≤ 100 ∧ ls.length ≤ 100 ∧
  (∀ c ∈ cols, nameS c.1 = true) ∧ (∀ ds ∈ ls, ds.length ≤ 100 ∧ ∀ d ∈ ds, scalD d = true ∧ smallD d) ∧ ∀ H', Same H H' → Q (.str (tableS cols ls)) H'
theorem line_len {ds : List PyData} (h : ∀ d ∈ ds, smallD d) (hn : ds.length ≤ 100) : (lineS ds).length ≤ 103000 := by
  have h1 := join_len (l := ds.map cellS) (n := 1010) (g := " ") fun z hz => by
    obtain ⟨d, hd, rfl⟩ := List.mem_map.mp hz
    exact cell_len (h d hd)
  have e2 : (" " : Str).length = 1 := by decide +kernel
  rw [e2, List.length_map] at h1
  have : ds.length * (1 + 1010) ≤ 100 * (1 + 1010) := Nat.mul_le_mul_right _ hn
  exact Nat.le_trans h1 (by omega)
theorem nameS_small {z : Str} (h : nameS z = true) : z.length ≤ 8 ∧ PyData.strOk z = true := by
  unfold nameS at h
  rw [Bool.and_eq_true, decide_eq_true_eq] at h
  refine ⟨h.1.2, ?_⟩
  unfold PyData.strOk
  rw [← Array.all_toList, List.all_eq_true]
  intro c hc
  have := List.all_eq_true.mp h.2 c hc
  simp at this ⊢
  omega
theorem head_small {cols : List (Str × Str)} (h : ∀ c ∈ cols, nameS c.1 = true) : ∀ d ∈ headD cols, scalD d = true ∧ smallD d := fun d hd => by
  obtain ⟨c, hc, rfl⟩ := List.mem_map.mp hd
  exact ⟨rfl, Nat.le_trans (nameS_small (h c hc)).1 (by decide), (nameS_small (h c hc)).2⟩
section
variable {P : Program} {w : World} {K : PySem.W.Frag} {mg : Str → Option Value} {base : Heap} {C : Addr}
theorem kn_names_of (D : Def0 K mg "names_of" (top 27)) (T : Txt K mg) : Kn P w K mg base CX0 "names_of" 1 ["schema"] [] (spNamesOf K) := by
  obtain ⟨f, fd, F, m⟩ := D
  have sc_ : FnScope ["schema", "name", "_"] ["schema"] (defScope (top 27)) := ⟨rfl, rfl, rfl, by decide +kernel, rfl, by decide +kernel, by decide +kernel⟩
  refine kn_of F m (F.ok sc_ (fun vs H Q E h => ?_) (fun cdv A outer s H vs Q E hr h => ?_)) (F.bindsN fun _ _ _ _ _ _ us hl => match us, hl with | [_], _ => rfl)
  · obtain ⟨v, cols, rfl, _⟩ := h; rfl
  · obtain ⟨v, cols, rfl, hs, hn, q⟩ := h
    refine ⟨_, PSs.nox (pss_one (ps_ret (pe_callTy (k_tupOf (K := K)) (by rfl) T.z_tuple (by decide +kernel) (pa_cons (pe_lc (own := [("name", 1), ("_", 2)]) (g := gTup K 2 (gCons (gName 1) (gCons (gName 2) gNil))) (by rfl) sc_.nd (k_tup (K := K) (pv 0)) (blkOk_by (N := ["schema", "name", "_"]) (sc := defScope (top 27)) (by decide +kernel)) (fun _ _ _ _ _ => (k_pgT (K := K) (pgs_cons (pg_name (i := 1) sc_.nd rfl (by first | exact Or.inl rfl | exact Or.inr rfl)) (pgs_cons (pg_name (i := 2) sc_.nd rfl (by first | exact Or.inl rfl | exact Or.inr rfl)) pgs_nil)))) (fun _ _ _ _ _ => pts_nil) (fun _ _ _ _ _ => (pv 1))) pa_nil)))), ?_⟩
    cases hs with
    | @tup b xs _ hb hl =>
      have hlen := DaL.length hl
      have hcl : (colsD cols).length = cols.length := by simp [colsD]
      refine ⟨_, rfl, b, rfl, ⟨_, hb⟩, fun D hD => lc_ok (walk_tup (K := K) (xs := xs)) (fun i y _ => ∃ c, cols[i]? = some c ∧ y = .str c.1) hD (by rw [hlen, hcl]; exact Nat.lt_of_le_of_lt hn (by decide)) (fun H1 e => same_t e hb) (fun _ _ _ _ _ _ h => h) (fun _ _ _ _ h => by rw [h.1]; exact Same.refl _) ?_ ?_⟩
      · rintro i x H1 H' hi s1 ⟨rfl, hx⟩ Q' k
        obtain ⟨d, hd1, hd2⟩ := DaL.get hl hx
        rw [colsD, List.getElem?_map, Option.map_eq_some_iff] at hd1
        obtain ⟨c, hc, rfl⟩ := hd1
        cases hd2 with
        | @tup t ys _ ht hl2 =>
          cases hl2 with
          | cons h1 h2 =>
            cases h2 with
            | cons h3 h4 =>
              cases h1; cases h3; cases h4
              exact ⟨t, _, rfl, same_t s1 ht, rfl, _, _, rfl, _, _, rfl, rfl, rfl, _, rfl, k _ _ (Same.refl _) ⟨c, hc, rfl⟩⟩
      · intro H1 acc s1 hacc hl1 hr1
        have e : acc = cols.map fun c => V.str c.1 := map_of (by omega) hr1
        refine ⟨D, acc, rfl, .inl ⟨SqL.of hacc, fun l hl2 => ?_⟩⟩
        exact q l _ (s1.trans (same_new hl2)) (by rw [upd_same, e])
theorem pn_names {p g : Addr} (hp : PropOf K C "names" p g) (F : FunM K "names" "Frame.names" (inClass (top 46) 4) g) (T : Txt K mg) (TF : FrT K C) (F_names_of : Kn P w K mg base CX0 "names_of" 1 ["schema"] [] (spNamesOf K)) : PropK P w K mg base C "names" 2 (spNames K C) := by
  obtain ⟨fd, F⟩ := F
  have sc_ : FnScope ["self"] ["self"] (defScope (inClass (top 46) 4)) := ⟨rfl, rfl, rfl, by decide +kernel, rfl, by decide +kernel, by decide +kernel⟩
  refine ⟨p, g, fd, hp, F.ok sc_ (fun vs H Q E h => ?_) (fun cdv A outer s H vs Q E hr h => ?_), F.bindsN fun _ _ _ _ _ _ us hl => match us, hl with | [_], _ => rfl⟩
  · obtain ⟨a, dx, s, r, cols, rfl, _⟩ := h; rfl
  · obtain ⟨a, dx, sv, r, cols, rfl, ha, hs, hn, q⟩ := h
    refine ⟨_, PSs.nox (pss_one (ps_ret (pe_own F_names_of hr (by first | decide | omega | (simp only [Nat.add_eq]; omega)) pass0 (pa_cons (k_fld (K := K) (pv 0) rfl) pa_nil)))), ?_⟩
    exact ⟨_, rfl, a, C, dx, _, _, rfl, ha, TF.cl, TF.nS, frF_s _ _, sv, cols, rfl, hs, hn, q⟩
theorem mn_table {f : Addr} (M : Meth K C "table" f) (F : FunM K "table" "Frame.table" (inClass (top 46) 6) f) (T : Txt K mg) (TF : FrT K C) (P_names : PropK P w K mg base C "names" 2 (spNames K C)) (F_table_line : Kn P w K mg base CX0 "table_line" 3 ["values"] [] (spLine K)) : MethK P w K mg base C "table" 5 ["self"] (spTable K C) := by
  obtain ⟨fd, F⟩ := F
  have C_Frame := TF.cl
  have sc_ : FnScope ["self", "values"] ["self"] (defScope (inClass (top 46) 6)) := ⟨rfl, rfl, rfl, by decide +kernel, rfl, by decide +kernel, by decide +kernel⟩
  refine ⟨f, fd, M, F.ok sc_ (fun vs H Q E h => ?_) (fun cdv A outer s H vs Q E hr h => ?_), F.bindsN fun _ _ _ _ _ _ us hl => match us, hl with | [_], _ => rfl⟩
  · obtain ⟨a, dx, s, r, cols, ls, rfl, _⟩ := h; rfl
  · obtain ⟨a, dx, sv, r, cols, ls, rfl, ha, hs, hr1, hn1, hn2, hc1, hl1, q⟩ := h
    refine ⟨_, PSs.nox (pss_one (ps_ret (k_join (K := K) pe_str (pe_lc (own := [("values", 1)]) (g := gName 1) (by rfl) sc_.nd (k_tup (K := K) (pe_tup (pa_cons (pe_propK (K := K) (pv 0) C_Frame P_names hr (by decide)) (k_star (K := K) (k_fld (K := K) (pv 0) rfl) pa_nil)))) (blkOk_by (N := ["self", "values"]) (sc := defScope (inClass (top 46) 6)) (by decide +kernel)) (fun _ _ _ _ _ => (pg_name (i := 1) sc_.nd rfl (by first | exact Or.inl rfl | exact Or.inr rfl))) (fun _ _ _ _ _ => pts_nil) (fun _ _ _ _ _ => (pe_own F_table_line hr (by first | decide | omega | (simp only [Nat.add_eq]; omega)) pass0 (pa_cons (pv 1) pa_nil))))))), ?_⟩
    refine ⟨⟨_, rfl⟩, _, rfl, a, dx, _, rfl, ha, a, dx, sv, r, cols, rfl, ha, hs, Nat.le_trans hn1 (by decide), fun p H1 e1 hp => ?_⟩
    cases hr1 with
    | @tup b xs _ hb hl =>
      have hlen := DaL.length hl
      have hrl : (rowsD ls).length = ls.length := by simp [rowsD]
      refine ⟨_, rfl, a, C, dx, _, _, rfl, e1 _ _ ha, TF.cl, TF.nR, frF_r _ _, b, xs, rfl, .inl (same_t e1 hb), by show (V.ref p :: (xs ++ [])).length ≤ sizeLine; exact Nat.le_trans (show (V.ref p :: (xs ++ [])).length ≤ 101 by simp; omega) (by decide), fun t ht => ?_⟩
      have e2 : Same H1 (upd H1 t (.tup (.ref p :: (xs ++ [])))) := same_new ht
      have e12 := e1.trans e2
      have hall : DaL K (upd H1 t (.tup (.ref p :: (xs ++ [])))) (.ref p :: (xs ++ [])) (.tuple (headD cols) :: rowsD ls) := by
        refine .cons (.tup (SqT.of (e2 _ _ hp)) (DaL.of (by simp [headD]) fun i v d h1 h2 => ?_)) (by simpa using DaL.mono e12 hl)
        rw [List.getElem?_map, Option.map_eq_some_iff] at h1
        rw [headD, List.getElem?_map, Option.map_eq_some_iff] at h2
        obtain ⟨c, hc, rfl⟩ := h1
        obtain ⟨c', hc', rfl⟩ := h2
        rw [hc] at hc'; cases hc'
        exact .str _ (Nat.le_trans (nameS_small (hc1 c (List.mem_of_getElem? hc))).1 (by decide))
      have hlen2 := DaL.length hall
      have hlines : ∀ ds ∈ headD cols :: ls, ds.length ≤ 100 ∧ ∀ d ∈ ds, scalD d = true ∧ smallD d := fun ds hd => by
        rcases List.mem_cons.mp hd with rfl | hd
        · exact ⟨by simpa [headD] using hn1, head_small hc1⟩
        · exact hl1 ds hd
      refine ⟨t, rfl, ⟨_, SqT.of upd_same⟩, fun D hD => lc_ok (walk_tup (K := K) (xs := .ref p :: (xs ++ []))) (fun i y _ => ∃ ds, (headD cols :: ls)[i]? = some ds ∧ y = .str (lineS ds)) hD (by rw [hlen2]; exact Nat.lt_of_le_of_lt (show (PyData.tuple (headD cols) :: rowsD ls).length ≤ 101 by simp [rowsD]; omega) (by decide)) (fun H2 e => same_t e (SqT.of upd_same)) (fun _ _ _ _ _ _ h => h) (fun _ _ _ _ h => by rw [h.1]; exact Same.refl _) ?_ ?_⟩
      · rintro i x H2 H' hi s1 ⟨rfl, hx⟩ Q' k
        obtain ⟨d, hd1, hd2⟩ := DaL.get hall hx
        have hd1' : ((headD cols :: ls).map PyData.tuple)[i]? = some d := hd1
        rw [List.getElem?_map, Option.map_eq_some_iff] at hd1'
        obtain ⟨ds, hds, rfl⟩ := hd1'
        have hm := hlines ds (List.mem_of_getElem? hds)
        exact ⟨rfl, _, rfl, x, ds, rfl, hd2.mono s1, hm.2, Nat.le_trans hm.1 (by decide), fun H3 e3 => k _ _ e3 ⟨ds, hds, rfl⟩⟩
      · intro H2 acc s1 hacc hl2 hr2
        have e : acc = ((headD cols :: ls).map lineS).map V.str := by
          rw [List.map_map]
          exact map_of (by rw [hl2, hlen2]; simp [rowsD]) hr2
        have hb2 : ∀ z ∈ (headD cols :: ls).map lineS, z.length ≤ 103000 := fun z hz => by
          obtain ⟨ds, hd, rfl⟩ := List.mem_map.mp hz
          exact line_len (fun d h => ((hlines ds hd).2 d h).2) (hlines ds hd).1
        refine ⟨_, D, (headD cols :: ls).map lineS, rfl, rfl, .inl (SqL.of (by rw [hacc, e])), ?_, ?_⟩
        · have h1 := sum_le hb2
          have e2 : ("\n" : Str).length = 1 := by decide +kernel
          rw [e2]
          have e3 : ((headD cols :: ls).map lineS).length = ls.length + 1 := by simp
          rw [e3] at h1 ⊢
          have h4 : (ls.length + 1) * 103000 ≤ 101 * 103000 := Nat.mul_le_mul_right _ (by omega)
          omega
        · exact q _ (e12.trans s1)
end
end Z
set_option Elab.async false
set_option linter.all false
set_option autoImplicit false
set_option maxRecDepth 100000
set_option maxHeartbeats 4000000
namespace Z
open PySem PySem.Spec PyProof.Rows L2
def spLCell (K : PySem.W.Frag) : Sp := fun vs H Q _ => ∃ (a : Addr) (ns : List Int) (k : Int), vs = [.ref a, .int k] ∧ SqL K H a (ns.map V.int) ∧ 0 ≤ k ∧ k < 1000 ∧ ∀ i H', Same H H' → Q (.int i) H'
def spPoolL : Sp := fun vs H Q _ => ∃ c, vs = [.int c] ∧ ∀ i j k p H', -(2 ^ 64) < i → i < 2 ^ 64 → H p = none → Same H H' → H' p = some (.lst [.int i, .int j, .int k]) → Q (.ref p) H'
def spPool : Sp := fun vs H Q _ => ∃ c, vs = [.int c] ∧ ∀ p H', H p = none → Same H H' → H' p = some (Pool p) → Q (.ref p) H'
def spDrawL : Sp := fun vs H Q _ => ∃ p i j k many, vs = [.ref p, .int many] ∧ H p = some (.lst [.int i, .int j, .int k]) ∧ -(2 ^ 64) < i ∧ i < 2 ^ 64 ∧ 1 ≤ many ∧ many < 1073741824 ∧
  ∀ d i' j' k' H', 0 ≤ d → d < many → -(2 ^ 64) < i' → i' < 2 ^ 64 → (∀ b o, b ≠ p → H b = some o → H' b = some o) → H' p = some (.lst [.int i', .int j', .int k']) → Q (.int d) H'
def spDraw : Sp := fun vs H Q _ => ∃ p many, vs = [.ref p, .int many] ∧ H p = some (Pool p) ∧ 1 ≤ many ∧ many < 1073741824 ∧ ∀ d H', 0 ≤ d → d < many → Same H H' → Q (.int d) H'
section
variable {P : Program} {w : World} {K : PySem.W.Frag} {mg : Str → Option Value} {base : Heap} {C : Addr}
theorem kn__law_cell (D : Def0 K mg "_law_cell" (top 48)) (T : Txt K mg) : Kn P w K mg base CX0 "_law_cell" 1 ["script", "k"] [] (spLCell K) := by
  obtain ⟨f, fd, F, m⟩ := D
  have sc_ : FnScope ["script", "k", "state_here", "cell"] ["script", "k"] (defScope (top 48)) := ⟨rfl, rfl, rfl, by decide +kernel, rfl, by decide +kernel, by decide +kernel⟩
  refine kn_of F m (F.ok sc_ (fun vs H Q E h => ?_) (fun cdv A outer s H vs Q E hr h => ?_)) (F.bindsN fun _ _ _ _ _ _ us hl => match us, hl with | [_, _], _ => rfl)
  · obtain ⟨a, ns, k, rfl, _⟩ := h; rfl
  · obtain ⟨a, ns, k, rfl, hs, hk0, hk1, q⟩ := h
    refine ⟨_, PSs.nox (pss_cons (ps_if (pt_cmpR op_lt (pv 1) (pe_callB (k_len (K := K)) (by rfl) T.z_len (by decide +kernel) (pa_cons (pv 0) pa_nil)) (nomark _)) (pss_one (ps_ret (pe_ix (k_ixL (K := K)) (pv 0) (pv 1) (fun _ _ => rfl)))) pss_nil)
      (pss_cons (ps_set (i := 2) sc_.nd rfl (by first | exact Or.inl rfl | exact Or.inr rfl) (pe_op op_mod (pe_op op_mul pe_int (pe_op op_add (pe_op op_add (pe_op op_mul (pv 1) (pv 1)) (pe_op op_mul pe_int (pv 1))) pe_int)) pe_int))
      (pss_cons (ps_for PassesOwn.never rfl (k_list (K := K) (pe_slice (k_slL (K := K)) (pv 0) po_none (po_some pe_int))) (pg_name (i := 3) sc_.nd rfl (by first | exact Or.inl rfl | exact Or.inr rfl))
        (pss_one (ps_set (i := 2) sc_.nd rfl (by first | exact Or.inl rfl | exact Or.inr rfl) (pe_op op_mod (pe_op op_add (pe_op op_mul (pv 2) pe_int) (pv 3)) pe_int))))
      (pss_one (ps_ret (pv 2)))))), ?_⟩
    refine ⟨_, rfl, _, rfl, a, _, rfl, .inl hs, _, _, rfl, rfl, _, rfl, ?_⟩
    refine ite2 (fun c => ?_) (fun c => ?_)
    · simp only [decide_eq_true_eq, List.length_map] at c
      obtain ⟨n, rfl⟩ : ∃ n : Nat, k = (n : Int) := ⟨k.toNat, by omega⟩
      have hn : n < ns.length := by omega
      exact ⟨_, rfl, _, rfl, a, _, _, V.int ns[n], rfl, rfl, hs, atI_nat (by rw [List.getElem?_map, List.getElem?_eq_getElem hn]; rfl), q _ _ (Same.refl _)⟩
    · refine ⟨_, rfl, _, rfl, _, _, rfl, rfl, Or.inl ⟨by omega, by omega⟩, _, rfl, _, _, rfl, rfl, Or.inl ⟨by decide, by decide⟩, _, _, rfl, rfl, _, _, rfl, rfl, _, _, rfl, rfl, Or.inl ⟨by decide, by decide⟩, _, _, rfl, rfl, (by show (0 : Int) < 2147483423; decide), ?_⟩
      refine ⟨_, rfl, _, rfl, a, _, rfl, hs, fun p hp => ⟨p, rfl, ⟨_, SqL.of upd_same⟩, for_list (K := K) (a := p) (xs := _) (fun i σ H' => ∃ z o, σ = [some (.ref a), some (.int k), some (.int z), o] ∧ Same (upd H p (.lst (cutV (ns.map V.int) none (some 3)))) H') ⟨_, none, rfl, Same.refl _⟩ (fun i σ H' _ ⟨_, _, _, e⟩ => SqL.of (e _ _ upd_same)) ?_ ?_⟩⟩
      · rintro i y σ H' hi ⟨z, o, rfl, e⟩
        obtain ⟨u, rfl⟩ : ∃ u, y = V.int u := by
          have h1 : y ∈ cutV (ns.map V.int) none (some 3) := List.mem_of_getElem? hi
          have h2 : y ∈ ns.map V.int := List.mem_of_mem_drop (List.mem_of_mem_take h1)
          obtain ⟨u, _, rfl⟩ := List.mem_map.mp h2
          exact ⟨u, rfl⟩
        exact ⟨_, rfl, _, _, rfl, rfl, Or.inr ⟨by decide, by decide⟩, _, rfl, _, _, rfl, rfl, _, _, rfl, rfl, (by show (0 : Int) < 2147483423; decide), _, _, rfl, e⟩
      · rintro σ H' ⟨z, o, rfl, e⟩
        exact ⟨_, rfl, q _ _ ((same_new hp).trans e)⟩
theorem kn__law_pool (D : Def0 K mg "_law_pool" (top 49)) (T : Txt K mg) : Kn P w K mg base CX0 "_law_pool" 1 ["cell"] [] spPool := by
  obtain ⟨f, fd, F, m⟩ := D
  have sc_ : FnScope ["cell", "digits"] ["cell"] (defScope (top 49)) := ⟨rfl, rfl, rfl, by decide +kernel, rfl, by decide +kernel, by decide +kernel⟩
  have ok : FnOk P w K mg base CX0 1 f fd ["cell"] spPoolL := by
    refine F.ok sc_ (fun vs H Q E h => ?_) (fun cdv A outer s H vs Q E hr h => ?_)
    · obtain ⟨c, rfl, _⟩ := h; rfl
    · obtain ⟨c, rfl, q⟩ := h
      refine ⟨_, PSs.nox (pss_cons (ps_set (i := 1) sc_.nd rfl (by first | exact Or.inl rfl | exact Or.inr rfl) (pe_ifExp (PW.pt (pw_or (pt_cmpR op_lt (pv 0) pe_int (nomark _)) (pw_or1 (pt_cmpR op_ge (pv 0) (pe_op op_pow pe_int pe_int) (nomark _))))) (pe_callB call_abs (by rfl) T.z_abs (by decide +kernel) (pa_cons (pv 0) pa_nil)) pe_int))
      (pss_one (ps_ret (pe_lst (pa_cons (pe_op op_mod (pv 0) pe_int) (pa_cons (pv 1) (pa_cons pe_int pa_nil))))))), ?_⟩
      refine ⟨_, rfl, _, _, rfl, rfl, _, rfl, ?_⟩
      have fin : ∀ (j : Int), L2.tRet (tLst (tCons (tOp (rI (fun _ j => 0 < j) fun i j => .int (i % j)) (tVar 0) (tC (.int 2147483423))) (tCons (tVar 1) (tCons (tC (.int 0)) tNil)))) { nx := fun _ H' => Q .non H', rt := Q } [some (.int c), some (.int j)] H := fun j => by
        refine ⟨_, rfl, _, _, rfl, rfl, (by show (0 : Int) < 2147483423; decide), _, rfl, by show 3 ≤ sizeLine; decide, fun p hp => ?_⟩
        exact q _ _ _ p _ (by have := Int.emod_nonneg c (show (2147483423 : Int) ≠ 0 by decide); omega) (by have := Int.emod_lt_of_pos c (show (0 : Int) < 2147483423 by decide); omega) hp (same_new hp) upd_same
      refine ite2 (fun _ => iteT ⟨_, rfl, _, rfl, fin _⟩) (fun _ => ?_)
      refine ⟨_, rfl, _, _, rfl, rfl, ⟨by decide, by decide, by decide⟩, _, _, rfl, rfl, _, rfl, ?_⟩
      exact ite2 (fun _ => ⟨_, rfl, _, rfl, fin _⟩) (fun _ => fin 0)
  refine kn_of F m (FnOk.poolNew ok fun vs H Q E h => ?_) (F.bindsN fun _ _ _ _ _ _ us hl => match us, hl with | [_], _ => rfl)
  obtain ⟨c, rfl, q⟩ := h
  exact ⟨c, rfl, fun i j k p H' a b hp e hp' => ⟨p, i, j, k, a, b, hp, hp', q p _ hp (fun b' o h => by rw [upd_ne (ne_of_none h hp)]; exact e _ _ h) upd_same⟩⟩
theorem kn__law_draw (D : Def0 K mg "_law_draw" (top 50)) (T : Txt K mg) : Kn P w K mg base CX0 "_law_draw" 1 ["pool", "many"] [] spDraw := by
  obtain ⟨f, fd, F, m⟩ := D
  have sc_ : FnScope ["pool", "many", "was", "more", "digit"] ["pool", "many"] (defScope (top 50)) := ⟨rfl, rfl, rfl, by decide +kernel, rfl, by decide +kernel, by decide +kernel⟩
  have ok : FnOk P w K mg base CX0 1 f fd ["pool", "many"] spDrawL := by
    refine F.ok sc_ (fun vs H Q E h => ?_) (fun cdv A outer s H vs Q E hr h => ?_)
    · obtain ⟨p, i, j, k, many, rfl, _⟩ := h; rfl
    · obtain ⟨p, i, j, k, many, rfl, hp, hi1, hi2, hm1, hm2, q⟩ := h
      refine ⟨_, PSs.nox (pss_cons (ps_asg (pe_op op_add (pe_ix (k_ixL (K := K)) (pv 0) pe_int (fun _ _ => rfl)) pe_int) (pg_sub (pv 0) pe_int set_list))
      (pss_cons (ps_par (i := 2) (j := 3) (by rfl) sc_.nd rfl rfl (by decide) rfl rfl (pa_cons (pe_ix (k_ixL (K := K)) (pv 0) pe_int (fun _ _ => rfl)) (pa_cons (pe_op op_add (pe_op op_mul pe_int (pe_ix (k_ixL (K := K)) (pv 0) pe_int (fun _ _ => rfl))) pe_int) pa_nil)) (by rfl))
      (pss_cons (ps_asg (pe_op op_mod (pe_op op_add (pe_op op_mul (pv 2) (pe_op op_add (pe_op op_mod (pv 2) pe_int) pe_int)) (pv 3)) pe_int) (pg_sub (pv 0) pe_int set_list))
      (pss_cons (ps_if (pt_cmpR op_gt (pe_ix (k_ixL (K := K)) (pv 0) pe_int (fun _ _ => rfl)) pe_int (nomark _)) (pss_cons (ps_asg (pe_callB call_divmod (by rfl) T.z_divmod (by decide +kernel) (pa_cons (pe_ix (k_ixL (K := K)) (pv 0) pe_int (fun _ _ => rfl)) (pa_cons (pv 1) pa_nil))) (k_pgT (K := K) (pgs_cons (pg_sub (pv 0) pe_int set_list) (pgs_cons (pg_name (i := 4) sc_.nd rfl (by first | exact Or.inl rfl | exact Or.inr rfl)) pgs_nil))))
      (pss_one (ps_ret (pv 4)))) pss_nil)
      (pss_one (ps_ret (pe_op op_mod (pe_op op_fdiv (pe_ix (k_ixL (K := K)) (pv 0) pe_int (fun _ _ => rfl)) pe_int) (pv 1)))))))), ?_⟩
      -- the third number goes up by one
      refine ⟨_, rfl, p, _, _, _, rfl, rfl, SqL.of hp, atI_nat (j := 2) rfl, _, _, rfl, rfl, _, rfl, p, _, _, 2, rfl, rfl, hp, rfl, ?_⟩
      refine ⟨_, rfl, p, _, _, _, rfl, rfl, SqL.of upd_same, atI_nat (j := 0) rfl, _, rfl, p, _, _, _, rfl, rfl, SqL.of upd_same, atI_nat (j := 2) rfl, _, _, rfl, rfl, Or.inl ⟨by decide, by decide⟩, _, _, rfl, rfl, _, _, rfl, ?_⟩
      refine ⟨_, rfl, _, rfl, _, _, rfl, rfl, (by show (0 : Int) < 43013; decide), _, _, rfl, rfl, _, _, rfl, rfl, Or.inl ⟨hi1, hi2⟩, _, rfl, _, _, rfl, rfl, _, _, rfl, rfl, (by show (0 : Int) < 2147483423; decide), _, rfl, p, _, _, 0, rfl, rfl, upd_same, rfl, ?_⟩
      have b1 := Int.emod_nonneg (i * (i % 43013 + 26003) + (60029 * (k + 1) + 19)) (show (2147483423 : Int) ≠ 0 by decide)
      have b2 := Int.emod_lt_of_pos (i * (i % 43013 + 26003) + (60029 * (k + 1) + 19)) (show (0 : Int) < 2147483423 by decide)
      generalize hz : (i * (i % 43013 + 26003) + (60029 * (k + 1) + 19)) % 2147483423 = z at b1 b2
      have keep : ∀ o1 o2, ∀ b o, b ≠ p → H b = some o → (upd (upd H p o1) p o2) b = some o := fun o1 o2 b o hb h => by
        rw [upd_ne hb, upd_ne hb]; exact h
      refine ⟨_, rfl, p, _, _, _, rfl, rfl, SqL.of upd_same, atI_nat (j := 1) rfl, _, _, rfl, rfl, _, rfl, ?_⟩
      refine ite2 (fun c => ?_) (fun c => ?_)
      · refine ⟨_, rfl, p, _, _, _, rfl, rfl, SqL.of upd_same, atI_nat (j := 1) rfl, _, rfl, _, _, rfl, ⟨by omega, hm2⟩, fun t ht => ?_⟩
        have ne : p ≠ t := fun e => by rw [← e, upd_same] at ht; cases ht
        have htn : H t = none := by rw [upd_ne (Ne.symm ne), upd_ne (Ne.symm ne)] at ht; exact ht
        refine ⟨t, _, rfl, SqT.of upd_same, rfl, _, _, rfl, ?_⟩
        refine ⟨_, rfl, p, _, _, 1, rfl, rfl, (by rw [upd_ne ne, upd_same]), rfl, ?_⟩
        refine ⟨_, _, rfl, rfl, _, rfl, ?_⟩
        exact q _ _ _ _ _ (Int.emod_nonneg _ (by omega)) (Int.emod_lt_of_pos _ (by omega)) (show -(2 ^ 64) < z by omega) (show z < 2 ^ 64 by omega) (fun b o hb h => by
          rw [upd_ne hb, upd_ne (ne_of_none h htn)]; exact keep _ _ b o hb h) (by rw [upd_same, ← hz]; rfl)
      · refine ⟨_, rfl, p, _, _, _, rfl, rfl, SqL.of upd_same, atI_nat (j := 0) rfl, _, _, rfl, rfl, ⟨by decide, by decide⟩, _, rfl, _, _, rfl, rfl, (by show 0 < many; omega), ?_⟩
        exact q _ _ _ _ _ (Int.emod_nonneg _ (by omega)) (Int.emod_lt_of_pos _ (by omega)) (show -(2 ^ 64) < z by omega) (show z < 2 ^ 64 by omega) (keep _ _) (by rw [upd_same, ← hz]; rfl)
  refine kn_of F m (FnOk.pool ok fun vs H Q E h => ?_) (F.bindsN fun _ _ _ _ _ _ us hl => match us, hl with | [_, _], _ => rfl)
  obtain ⟨p, many, rfl, hp, h1, h2, q⟩ := h
  refine ⟨p, hp, fun i j k a b => ⟨p, i, j, k, many, rfl, upd_same, a, b, h1, h2, fun d i' j' k' H' d0 d1 a' b' kp hp' => ⟨i', j', k', a', b', hp', q d _ d0 d1 fun c o h => ?_⟩⟩⟩
  by_cases hc : c = p
  · subst hc; rw [hp] at h; cases h; exact upd_same
  · rw [upd_ne hc]; exact kp c o hc (by rw [upd_ne hc]; exact h)
end
end Z
set_option Elab.async false
set_option linter.all false
set_option autoImplicit false
set_option maxRecDepth 100000
set_option maxHeartbeats 4000000
namespace Z
open PySem PySem.Spec PyProof.Rows L2
theorem mul_small {z : Str} {n : Int} (h1 : z.length ≤ 1000) (h2 : n ≤ 1000) (h3 : -1000 ≤ n) : MulOk z n := by
  refine ⟨?_, fun a _ => ?_, fun a _ => ?_⟩
  · rw [Bool.or_eq_false_iff]; exact ⟨decide_eq_false (by omega), decide_eq_false (by omega)⟩
  · have : (1000 : Int) ≤ (2 ^ 63 - 1) / n := Int.le_ediv_of_mul_le (by omega) (by omega)
    omega
  · have e : n.toNat ≤ 1000 := by omega
    have := Nat.mul_le_mul h1 e
    unfold Builtin.Str.tooLong
    have h4 : (1000000 : Nat) ≤ sizeLine := by decide
    simp; omega
def ownL : List Str := ["scan", "where", "pick", "add", "there", "up", "all", "int", "count", "none", "value", "rows"]
def ownAt (b i : Nat) : Str := ownL.getD ((b + 5 * i) % 12) ""
def letAt (b i : Nat) : Str := Txt.mul ⟨#[97 + (b + 5 * i) % 26]⟩ (([1, 1, 2, 8] : List Int).getD (i % 4) 0)
theorem own_ok : ((List.range 12).all fun b => ((List.range 12).all fun i => nameS (ownAt b i)) && decide ((List.range 12).map (ownAt b)).Nodup) = true := by decide +kernel
theorem let_ok : ((List.range 12).all fun b => ((List.range 12).all fun i => nameS (letAt b i)) && decide ((List.range 12).map (letAt b)).Nodup) = true := by decide +kernel
theorem names_ok {g : Nat → Nat → Str} (h : ((List.range 12).all fun b => ((List.range 12).all fun i => nameS (g b i)) && decide ((List.range 12).map (g b)).Nodup) = true) {b n : Nat} (hb : b < 12) (hn : n ≤ 12) :
    (∀ z ∈ (List.range n).map (g b), nameS z = true) ∧ ((List.range n).map (g b)).Nodup := by
  have h1 := List.all_eq_true.mp h b (List.mem_range.mpr hb)
  rw [Bool.and_eq_true] at h1
  refine ⟨fun z hz => ?_, ?_⟩
  · obtain ⟨i, hi, rfl⟩ := List.mem_map.mp hz
    exact List.all_eq_true.mp h1.1 i (List.mem_range.mpr (by have := List.mem_range.mp hi; omega))
  · have h2 := of_decide_eq_true h1.2
    refine List.Nodup.sublist (List.Sublist.map _ ?_) h2
    exact List.range_sublist.mpr hn
def spCalls : Sp := fun vs H Q _ => ∃ p many, vs = [.ref p, .int many] ∧ H p = some (Pool p) ∧ 1 ≤ many ∧ many ≤ 12 ∧
  ∀ l (names : List Str) H', (names.length : Int) = many → (∀ z ∈ names, nameS z = true) → names.Nodup → Same H H' → H' l = some (.lst (names.map V.str)) → Q (.ref l) H'
theorem letters_at (j : Nat) (h : j < 26) : (Str.ofString "abcdefghijklmnopqrstuvwxyz").cps.toList[j]? = some (97 + j) := by
  have : ((List.range 26).all fun j => decide ((Str.ofString "abcdefghijklmnopqrstuvwxyz").cps.toList[j]? = some (97 + j))) = true := by decide +kernel
  exact of_decide_eq_true (List.all_eq_true.mp this j (List.mem_range.mpr h))
section
variable {P : Program} {w : World} {K : PySem.W.Frag} {mg : Str → Option Value} {base : Heap} {C : Addr}
theorem kn__law_calls (D : Def0 K mg "_law_calls" (top 51)) (T : Txt K mg) (F__law_draw : Kn P w K mg base CX0 "_law_draw" 1 ["pool", "many"] [] spDraw) : Kn P w K mg base CX0 "_law_calls" 2 ["pool", "many"] [] spCalls := by
  obtain ⟨f, fd, F, m⟩ := D
  have sc_ : FnScope ["pool", "many", "own", "begin", "letters", "k"] ["pool", "many"] (defScope (top 51)) := ⟨rfl, rfl, rfl, by decide +kernel, rfl, by decide +kernel, by decide +kernel⟩
  refine kn_of F m (F.ok sc_ (fun vs H Q E h => ?_) (fun cdv A outer s H vs Q E hr h => ?_)) (F.bindsN fun _ _ _ _ _ _ us hl => match us, hl with | [_, _], _ => rfl)
  · obtain ⟨p, many, rfl, _⟩ := h; rfl
  · obtain ⟨p, many, rfl, hp, hm1, hm2, q⟩ := h
    refine ⟨_, PSs.nox (pss_cons (ps_set (i := 2) sc_.nd rfl (by first | exact Or.inl rfl | exact Or.inr rfl) (pe_lst (pa_cons pe_str (pa_cons pe_str (pa_cons pe_str (pa_cons pe_str (pa_cons pe_str (pa_cons pe_str (pa_cons pe_str (pa_cons pe_str (pa_cons pe_str (pa_cons pe_str (pa_cons pe_str (pa_cons pe_str pa_nil))))))))))))))
      (pss_cons (ps_set (i := 3) sc_.nd rfl (by first | exact Or.inl rfl | exact Or.inr rfl) (pe_own F__law_draw hr (by first | decide | omega | (simp only [Nat.add_eq]; omega)) pass0 (pa_cons (pv 0) (pa_cons pe_int pa_nil))))
      (pss_cons (ps_if (pt_cmpR op_eq (pe_own F__law_draw hr (by first | decide | omega | (simp only [Nat.add_eq]; omega)) pass0 (pa_cons (pv 0) (pa_cons pe_int pa_nil))) pe_int (nomark _)) (pss_one (ps_ret (pe_lc (own := [("k", 5)]) (g := gName 5) (by rfl) sc_.nd (pi_range1 (by rfl) T.z_range (pa_cons (pv 1) pa_nil)) (blkOk_by (N := ["pool", "many", "own", "begin", "letters", "k"]) (sc := defScope (top 51)) (by decide +kernel)) (fun _ _ _ _ _ => (pg_name (i := 5) sc_.nd rfl (by first | exact Or.inl rfl | exact Or.inr rfl))) (fun _ _ _ _ _ => pts_nil) (fun _ _ _ _ _ => (pe_ix (k_ixL (K := K)) (pv 2) (pe_op op_mod (pe_op op_add (pv 3) (pe_op op_mul pe_int (pv 5))) pe_int) (fun _ _ => rfl)))))) pss_nil)
      (pss_cons (ps_set (i := 4) sc_.nd rfl (by first | exact Or.inl rfl | exact Or.inr rfl) pe_str)
      (pss_one (ps_ret (pe_lc (own := [("k", 5)]) (g := gName 5) (by rfl) sc_.nd (pi_range1 (by rfl) T.z_range (pa_cons (pv 1) pa_nil)) (blkOk_by (N := ["pool", "many", "own", "begin", "letters", "k"]) (sc := defScope (top 51)) (by decide +kernel)) (fun _ _ _ _ _ => (pg_name (i := 5) sc_.nd rfl (by first | exact Or.inl rfl | exact Or.inr rfl))) (fun _ _ _ _ _ => pts_nil) (fun _ _ _ _ _ => (pe_op op_mul_str (pe_ix ix_str (pv 4) (pe_op op_mod (pe_op op_add (pv 3) (pe_op op_mul pe_int (pv 5))) pe_int) (fun _ _ => rfl)) (pe_ix (k_ixL (K := K)) (pe_lst (pa_cons pe_int (pa_cons pe_int (pa_cons pe_int (pa_cons pe_int pa_nil))))) (pe_op op_mod (pv 5) pe_int) (fun _ _ => rfl))))))))))), ?_⟩
    refine ⟨by show 12 ≤ sizeLine; decide, fun o ho => ?_⟩
    have e1 : Same H (upd H o (.lst (ownL.map V.str))) := same_new ho
    refine ⟨_, rfl, p, 12, rfl, e1 _ _ hp, by decide, by decide, fun b H2 hb0 hb1 e2 => ?_⟩
    obtain ⟨b, rfl⟩ : ∃ n : Nat, b = (n : Int) := ⟨b.toNat, by omega⟩
    have e12 := e1.trans e2
    refine ⟨_, rfl, p, 3, rfl, e12 _ _ hp, by decide, by decide, fun c H3 hc0 hc1 e3 => ⟨rfl, _, rfl, ?_⟩⟩
    have e13 := e12.trans e3
    have hown : SqL K H3 o (ownL.map V.str) := SqL.of ((e2.trans e3) _ _ upd_same)
    have hnn : many.toNat ≤ 12 := by omega
    refine ite2 (fun _ => ?_) (fun _ => ?_)
    · refine ⟨_, rfl, many, rfl, by omega, by omega, fun D hD => lc_ok walk_range (fun i y _ => y = .str (ownAt b i)) hD (Nat.lt_of_le_of_lt hnn (by decide)) (fun _ _ => trivial) (fun _ _ _ _ _ _ h => h) (fun _ _ _ _ h => by rw [h.1]; exact Same.refl _) ?_ ?_⟩
      · rintro i x H4 H' hi s1 ⟨rfl, rfl⟩ Q' k
        have hj : (b + 5 * i) % 12 < 12 := Nat.mod_lt _ (by decide)
        refine ⟨rfl, _, rfl, _, rfl, _, rfl, _, _, rfl, rfl, Or.inl ⟨by decide, by decide⟩, _, _, rfl, rfl, _, _, rfl, rfl, (by show (0 : Int) < 12; decide), o, _, _, .str (ownAt b i), rfl, rfl, Same.seq s1 hown, ?_, k _ _ (Same.refl _) rfl⟩
        rw [show ((b : Int) + 5 * (0 + (i : Int))) % 12 = (((b + 5 * i) % 12 : Nat) : Int) by omega]
        refine atI_nat ?_
        rw [List.getElem?_map, ownAt, List.getElem?_eq_getElem (show (b + 5 * i) % 12 < ownL.length from hj), List.getD_eq_getElem?_getD, List.getElem?_eq_getElem (show (b + 5 * i) % 12 < ownL.length from hj)]
        rfl
      · intro H4 acc s1 hacc hl hr
        have e : acc = ((List.range many.toNat).map (ownAt b)).map V.str := by
          rw [List.map_map]
          refine map_of (by simpa using hl) fun i y hy => ⟨i, ?_, hr i y hy⟩
          rw [List.getElem?_range]; have := (List.getElem?_eq_some_iff.mp hy).1; omega
        have ok := names_ok own_ok (b := b) (by omega) hnn
        exact q D _ H4 (by simp; omega) ok.1 ok.2 (e13.trans s1) (by rw [hacc, e])
    · refine ⟨_, rfl, many, rfl, by omega, by omega, fun D hD => lc_ok walk_range (fun i y _ => y = .str (letAt b i)) hD (Nat.lt_of_le_of_lt hnn (by decide)) (fun _ _ => trivial) (fun _ _ _ _ _ _ h => h) (fun _ _ _ _ h => by rw [h.1]; exact Same.refl _) ?_ ?_⟩
      · rintro i x H4 H' hi s1 ⟨rfl, rfl⟩ Q' k
        have hj : (b + 5 * i) % 26 < 26 := Nat.mod_lt _ (by decide)
        refine ⟨rfl, _, rfl, _, rfl, _, rfl, _, _, rfl, rfl, Or.inl ⟨by decide, by decide⟩, _, _, rfl, rfl, _, _, rfl, rfl, (by show (0 : Int) < 26; decide), _, _, 97 + (b + 5 * i) % 26, rfl, rfl, by decide, ?_, by show 4 ≤ sizeLine; decide, fun t ht => ?_⟩
        · rw [show ((b : Int) + 5 * (0 + (i : Int))) % 26 = (((b + 5 * i) % 26 : Nat) : Int) by omega]
          exact atI_nat (letters_at _ hj)
        · have hi4 : i % 4 < 4 := Nat.mod_lt _ (by decide)
          refine ⟨_, rfl, _, _, rfl, rfl, (by show (0 : Int) < 4; decide), t, _, _, .int (([1, 1, 2, 8] : List Int).getD (i % 4) 0), rfl, rfl, SqL.of upd_same, ?_, _, _, rfl, rfl, ?_, k _ _ (same_new ht) rfl⟩
          · rw [show (0 + (i : Int)) % 4 = ((i % 4 : Nat) : Int) by omega]
            refine atI_nat ?_
            generalize i % 4 = r at hi4
            match r, hi4 with
            | 0, _ => rfl
            | 1, _ => rfl
            | 2, _ => rfl
            | 3, _ => rfl
          · refine mul_small (by show 1 ≤ 1000; decide) ?_ ?_ <;>
            · generalize i % 4 = r at hi4
              match r, hi4 with
              | 0, _ => decide
              | 1, _ => decide
              | 2, _ => decide
              | 3, _ => decide
      · intro H4 acc s1 hacc hl hr
        have e : acc = ((List.range many.toNat).map (letAt b)).map V.str := by
          rw [List.map_map]
          refine map_of (by simpa using hl) fun i y hy => ⟨i, ?_, hr i y hy⟩
          rw [List.getElem?_range]; have := (List.getElem?_eq_some_iff.mp hy).1; omega
        have ok := names_ok let_ok (b := b) (by omega) hnn
        exact q D _ H4 (by simp; omega) ok.1 ok.2 (e13.trans s1) (by rw [hacc, e])
end
end Z
set_option Elab.async false
set_option linter.all false
set_option autoImplicit false
set_option maxRecDepth 100000
set_option maxHeartbeats 4000000
namespace Z
open PySem PySem.Spec PyProof.Rows L2
def toV : PyData → V
  | .bool b => .bl b
  | .int i => .int i
  | .str z => .str z
  | _ => .non
def smallB : PyData → Bool
  | .int i => decide (i.natAbs.log2 < 1920) && (decide ((Str.ofString (toString i)).length ≤ 1000) && PyData.strOk (Str.ofString (toString i)))
  | .str z => decide (z.length ≤ 1000) && PyData.strOk z
  | _ => true
theorem small_of {d : PyData} (h : smallB d = true) : smallD d := by
  cases d <;> first | trivial | (simp only [smallB, Bool.and_eq_true, decide_eq_true_eq] at h; exact h)
def okB (k : Str) (d : PyData) : Bool := valueD k d && (scalD d && smallB d)
theorem toV_da {K : PySem.W.Frag} {H : Hp} {d : PyData} (h : scalD d = true) (h2 : smallD d) : Da K H (toV d) d := by
  cases d with
  | none => exact .non
  | bool b => exact .bl b
  | int i => exact .int i
  | str z => exact .str z (Nat.le_trans h2.1 (by decide))
  | _ => cases h
def wInts : List PyData := [.int 0, .int 1, .int 2, .int (-1), .int 3, .int 7, .int (-(10 ^ (12 : Int).toNat)), .int (10 ^ (13 : Int).toNat)]
def wTexts : List PyData := [.str "", .str "a", .str "b", .str "ab", .str "Rome", .str "), [a,b", .str "\"", .str "\\", .str "none", .str " "]
theorem wInts_ok : wInts.all (okB "int") = true := by decide +kernel
theorem wTexts_ok : wTexts.all (okB "text") = true := by decide +kernel
theorem ok_parts {k : Str} {d : PyData} (h : okB k d = true) : valueD k d = true ∧ scalD d = true ∧ smallD d := by
  unfold okB at h
  rw [Bool.and_eq_true, Bool.and_eq_true] at h
  exact ⟨h.1, h.2.1, small_of h.2.2⟩
theorem pick_at {L : List PyData} {k : Str} (h : L.all (okB k) = true) {d : Int} (h0 : 0 ≤ d) (h1 : d < L.length) : ∃ e, atI (L.map toV) d = some (toV e) ∧ valueD k e = true ∧ scalD e = true ∧ smallD e := by
  obtain ⟨n, rfl⟩ : ∃ n : Nat, d = (n : Int) := ⟨d.toNat, by omega⟩
  have hn : n < L.length := by omega
  exact ⟨L[n], atI_nat (by rw [List.getElem?_map, List.getElem?_eq_getElem hn]; rfl), ok_parts (List.all_eq_true.mp h _ (List.getElem_mem hn))⟩
def spWorth (K : PySem.W.Frag) : Sp := fun vs H Q _ => ∃ p k, vs = [.ref p, .str k] ∧ H p = some (Pool p) ∧ kindS k = true ∧ ∀ e H', valueD k e = true → scalD e = true → smallD e → Same H H' → Q (toV e) H'
theorem kindS_or {k : Str} (h : kindS k = true) : k = "int" ∨ k = "text" ∨ k = "bool" := by
  unfold kindS at h
  rw [Bool.or_eq_true, Bool.or_eq_true] at h
  rcases h with (h | h) | h
  · exact .inl (eq_of_beq h)
  · exact .inr (.inl (eq_of_beq h))
  · exact .inr (.inr (eq_of_beq h))
section
variable {P : Program} {w : World} {K : PySem.W.Frag} {mg : Str → Option Value} {base : Heap} {C : Addr}
theorem kn__law_worth (D : Def0 K mg "_law_worth" (top 52)) (T : Txt K mg) (F__law_draw : Kn P w K mg base CX0 "_law_draw" 1 ["pool", "many"] [] spDraw) : Kn P w K mg base CX0 "_law_worth" 2 ["pool", "kind_here"] [] (spWorth K) := by
  obtain ⟨f, fd, F, m⟩ := D
  have sc_ : FnScope ["pool", "kind_here"] ["pool", "kind_here"] (defScope (top 52)) := ⟨rfl, rfl, rfl, by decide +kernel, rfl, by decide +kernel, by decide +kernel⟩
  refine kn_of F m (F.ok sc_ (fun vs H Q E h => ?_) (fun cdv A outer s H vs Q E hr h => ?_)) (F.bindsN fun _ _ _ _ _ _ us hl => match us, hl with | [_, _], _ => rfl)
  · obtain ⟨p, k, rfl, _⟩ := h; rfl
  · obtain ⟨p, k, rfl, hp, hk, q⟩ := h
    refine ⟨_, PSs.nox (pss_cons (ps_if (pt_cmpR op_eq (pe_own F__law_draw hr (by first | decide | omega | (simp only [Nat.add_eq]; omega)) pass0 (pa_cons (pv 0) (pa_cons pe_int pa_nil))) pe_int (nomark _)) (pss_one (ps_ret pe_non)) pss_nil)
      (pss_cons (ps_if (pt_cmpR op_eq (pv 1) pe_str (nomark _)) (pss_one (ps_ret (pe_ix (k_ixL (K := K)) (pe_lst (pa_cons pe_int (pa_cons pe_int (pa_cons pe_int (pa_cons (pe_un un_neg pe_int) (pa_cons pe_int (pa_cons pe_int (pa_cons (pe_un un_neg (pe_op op_pow pe_int pe_int)) (pa_cons (pe_op op_pow pe_int pe_int) pa_nil))))))))) (pe_own F__law_draw hr (by first | decide | omega | (simp only [Nat.add_eq]; omega)) pass0 (pa_cons (pv 0) (pa_cons pe_int pa_nil))) (fun _ _ => rfl)))) pss_nil)
      (pss_cons (ps_if (pt_cmpR op_eq (pv 1) pe_str (nomark _)) (pss_one (ps_ret (pe_ix (k_ixL (K := K)) (pe_lst (pa_cons pe_str (pa_cons pe_str (pa_cons pe_str (pa_cons pe_str (pa_cons pe_str (pa_cons pe_str (pa_cons pe_str (pa_cons pe_str (pa_cons pe_str (pa_cons pe_str pa_nil))))))))))) (pe_own F__law_draw hr (by first | decide | omega | (simp only [Nat.add_eq]; omega)) pass0 (pa_cons (pv 0) (pa_cons pe_int pa_nil))) (fun _ _ => rfl)))) pss_nil)
      (pss_one (ps_ret (pe_cmpR op_eq (pe_own F__law_draw hr (by first | decide | omega | (simp only [Nat.add_eq]; omega)) pass0 (pa_cons (pv 0) (pa_cons pe_int pa_nil))) pe_int (nomark _))))))), ?_⟩
    refine ⟨_, rfl, p, 5, rfl, hp, by decide, by decide, fun c H1 hc0 hc1 e1 => ⟨rfl, _, rfl, ?_⟩⟩
    refine ite2 (fun _ => q .none _ rfl rfl trivial e1) (fun _ => ?_)
    refine ⟨_, rfl, rfl, _, rfl, ?_⟩
    by_cases h1 : k = "int"
    · subst h1
      rw [decide_eq_true rfl]
      refine iteT ?_
      refine ⟨_, rfl, _, _, rfl, rfl, ⟨by decide, by decide, by decide⟩, _, rfl, _, _, rfl, rfl, ⟨by decide, by decide, by decide⟩, by show 8 ≤ sizeLine; decide, fun t ht => ?_⟩
      have e2 : Same H1 (upd H1 t (.lst (wInts.map toV))) := same_new ht
      refine ⟨_, rfl, p, 8, rfl, e2 _ _ (e1 _ _ hp), by decide, by decide, fun d H3 hd0 hd1 e3 => ?_⟩
      obtain ⟨e, ha, hv, hs, hz⟩ := pick_at wInts_ok hd0 hd1
      exact ⟨t, _, d, _, rfl, rfl, SqL.of (e3 _ _ upd_same), ha, q e _ hv hs hz ((e1.trans e2).trans e3)⟩
    · rw [decide_eq_false (fun c => h1 (V.str.inj c))]
      refine iteF ?_
      refine ⟨_, rfl, rfl, _, rfl, ?_⟩
      by_cases h2 : k = "text"
      · subst h2
        rw [decide_eq_true rfl]
        refine iteT ?_
        refine ⟨by show 10 ≤ sizeLine; decide, fun t ht => ?_⟩
        have e2 : Same H1 (upd H1 t (.lst (wTexts.map toV))) := same_new ht
        refine ⟨_, rfl, p, 10, rfl, e2 _ _ (e1 _ _ hp), by decide, by decide, fun d H3 hd0 hd1 e3 => ?_⟩
        obtain ⟨e, ha, hv, hs, hz⟩ := pick_at wTexts_ok hd0 hd1
        exact ⟨t, _, d, _, rfl, rfl, SqL.of (e3 _ _ upd_same), ha, q e _ hv hs hz ((e1.trans e2).trans e3)⟩
      · rw [decide_eq_false (fun c => h2 (V.str.inj c))]
        refine iteF ?_
        refine ⟨_, rfl, p, 2, rfl, e1 _ _ hp, by decide, by decide, fun d H3 hd0 hd1 e3 => ⟨rfl, ?_⟩⟩
        exact q (.bool (decide (V.int d = V.int 0))) _ (by simp only [valueD]; rw [if_neg h1, if_neg h2]; rfl) rfl trivial (e1.trans e3)
end
end Z
set_option Elab.async false
set_option linter.all false
set_option autoImplicit false
set_option maxRecDepth 100000
set_option maxHeartbeats 4000000
namespace Z
open PySem PySem.Spec PyProof.Rows L2
theorem strs_of {Q : Str → Prop} : ∀ {acc : List V}, (∀ (i : Nat) y, acc[i]? = some y → ∃ z, y = .str z ∧ Q z) → ∃ l : List Str, acc = l.map V.str ∧ ∀ z ∈ l, Q z
  | [], _ => ⟨[], rfl, fun z h => by cases h⟩
  | a :: acc, h => by
    obtain ⟨z, hz, hq⟩ := h 0 a rfl
    obtain ⟨l, e, hl⟩ := strs_of (acc := acc) fun i y hy => h (i + 1) y hy
    exact ⟨z :: l, by rw [hz, e]; rfl, fun y hy => by
      rcases List.mem_cons.mp hy with rfl | hy
      · exact hq
      · exact hl y hy⟩
def kindL : List Str := ["int", "text", "bool", "int", "text"]
def spHeads (K : PySem.W.Frag) : Sp := fun vs H Q _ => ∃ p l, ∃ names : List Str, vs = [.ref p, .ref l] ∧ H p = some (Pool p) ∧ H l = some (.lst (names.map V.str)) ∧ names ≠ [] ∧ names.length ≤ 12 ∧ (∀ z ∈ names, nameS z = true) ∧
  ∀ v (cols : List (Str × Str)) H', cols.map (·.1) = names → (∀ c ∈ cols, kindS c.2 = true) → Same H H' → Da K H' v (.tuple (colsD cols)) → Q v H'
section
variable {P : Program} {w : World} {K : PySem.W.Frag} {mg : Str → Option Value} {base : Heap} {C : Addr}
theorem kn__law_heads (D : Def0 K mg "_law_heads" (top 53)) (T : Txt K mg) (F__law_draw : Kn P w K mg base CX0 "_law_draw" 1 ["pool", "many"] [] spDraw) : Kn P w K mg base CX0 "_law_heads" 2 ["pool", "calls"] [] (spHeads K) := by
  obtain ⟨f, fd, F, m⟩ := D
  have sc_ : FnScope ["pool", "calls", "kinds", "call", "k"] ["pool", "calls"] (defScope (top 53)) := ⟨rfl, rfl, rfl, by decide +kernel, rfl, by decide +kernel, by decide +kernel⟩
  refine kn_of F m (F.ok sc_ (fun vs H Q E h => ?_) (fun cdv A outer s H vs Q E hr h => ?_)) (F.bindsN fun _ _ _ _ _ _ us hl => match us, hl with | [_, _], _ => rfl)
  · obtain ⟨p, l, names, rfl, _⟩ := h; rfl
  · obtain ⟨p, l, names, rfl, hp, hl, hne, hn, hok, q⟩ := h
    refine ⟨_, PSs.nox (pss_cons (ps_set (i := 2) sc_.nd rfl (by first | exact Or.inl rfl | exact Or.inr rfl) (pe_op op_cat (pe_lst (pa_cons pe_str pa_nil)) (pe_lc (own := [("call", 3)]) (g := gName 3) (by rfl) sc_.nd (k_list (K := K) (pe_slice (k_slL (K := K)) (pv 1) (po_some pe_int) po_none)) (blkOk_by (N := ["pool", "calls", "kinds", "call", "k"]) (sc := defScope (top 53)) (by decide +kernel)) (fun _ _ _ _ _ => (pg_name (i := 3) sc_.nd rfl (by first | exact Or.inl rfl | exact Or.inr rfl))) (fun _ _ _ _ _ => pts_nil) (fun _ _ _ _ _ => (pe_ix (k_ixL (K := K)) (pe_lst (pa_cons pe_str (pa_cons pe_str (pa_cons pe_str (pa_cons pe_str (pa_cons pe_str pa_nil)))))) (pe_own F__law_draw hr (by first | decide | omega | (simp only [Nat.add_eq]; omega)) pass0 (pa_cons (pv 0) (pa_cons pe_int pa_nil))) (fun _ _ => rfl))))))
      (pss_one (ps_ret (pe_callTy (k_tupOf (K := K)) (by rfl) T.z_tuple (by decide +kernel) (pa_cons (pe_lc (own := [("k", 4)]) (g := gName 4) (by rfl) sc_.nd (pi_range1 (by rfl) T.z_range (pa_cons (pe_callB (k_len (K := K)) (by rfl) T.z_len (by decide +kernel) (pa_cons (pv 1) pa_nil)) pa_nil)) (blkOk_by (N := ["pool", "calls", "kinds", "call", "k"]) (sc := defScope (top 53)) (by decide +kernel)) (fun _ _ _ _ _ => (pg_name (i := 4) sc_.nd rfl (by first | exact Or.inl rfl | exact Or.inr rfl))) (fun _ _ _ _ _ => pts_nil) (fun _ _ _ _ _ => (pe_tup (pa_cons (pe_ix (k_ixL (K := K)) (pv 1) (pv 4) (fun _ _ => rfl)) (pa_cons (pe_ix (k_ixL (K := K)) (pv 2) (pv 4) (fun _ _ => rfl)) pa_nil))))) pa_nil))))), ?_⟩
    refine ⟨by show 1 ≤ sizeLine; decide, fun a ha => ?_⟩
    have e1 : Same H (upd H a (.lst [.str "int"])) := same_new ha
    refine ⟨_, rfl, _, rfl, l, _, rfl, SqL.of (e1 _ _ hl), fun b hb => ⟨b, rfl, ⟨_, SqL.of upd_same⟩, fun D hD => ?_⟩⟩
    have e2 := e1.trans (same_new hb (o := .lst (cutV (names.map V.str) (some 1) none)))
    have hcut : (cutV (names.map V.str) (some 1) none).length + 1 = names.length := by
      have : names.length ≠ 0 := fun e => hne (List.eq_nil_of_length_eq_zero e)
      simp [cutV, HT.sIx]
      omega
    refine lc_ok (walk_list (K := K) (a := b) (xs := cutV (names.map V.str) (some 1) none)) (fun i y _ => ∃ z, y = .str z ∧ kindS z = true) hD (Nat.lt_of_le_of_lt (show _ ≤ 12 by omega) (by decide)) (fun H1 e => Same.seq e (SqL.of upd_same)) (fun _ _ _ _ _ _ h => h) (fun _ _ _ _ h => by rw [h.1]; exact Same.refl _) ?_ ?_
    · rintro i x H1 H' hi s1 ⟨rfl, hx⟩ Q' k
      refine ⟨rfl, by show 5 ≤ sizeLine; decide, fun t ht => ?_⟩
      have e3 : Same H' (upd H' t (.lst (kindL.map V.str))) := same_new ht
      refine ⟨_, rfl, p, 5, rfl, (e2.trans (s1.trans e3)) _ _ hp, by decide, by decide, fun d H3 hd0 hd1 e4 => ?_⟩
      obtain ⟨n, rfl⟩ : ∃ n : Nat, d = (n : Int) := ⟨d.toNat, by omega⟩
      have hn5 : n < kindL.length := by show n < 5; omega
      refine ⟨t, _, _, .str kindL[n], rfl, rfl, SqL.of (e4 _ _ upd_same), atI_nat (by show (kindL.map V.str)[n]? = _; rw [List.getElem?_map, List.getElem?_eq_getElem hn5]; rfl), k _ _ (e3.trans e4) ⟨_, rfl, ?_⟩⟩
      have : kindL.all kindS = true := by decide +kernel
      exact List.all_eq_true.mp this _ (List.getElem_mem hn5)
    · intro H1 acc s1 hacc hla hra
      obtain ⟨kl, e, hkl⟩ := strs_of hra
      subst e
      rw [List.length_map] at hla
      have e3 := e2.trans s1
      have ha1 : H1 a = some (.lst [.str "int"]) := s1 _ _ (by rw [upd_ne (ne_of_none upd_same hb)]; exact upd_same)
      refine ⟨a, D, _, _, rfl, rfl, ha1, hacc, Nat.le_trans (show 1 + (kl.map V.str).length ≤ 12 by rw [List.length_map]; omega) (by decide), fun kk hkk => ?_⟩
      have e4 := e3.trans (same_new hkk (o := .lst ([V.str "int"] ++ kl.map V.str)))
      refine ⟨_, rfl, l, _, rfl, .inl (SqL.of (e4 _ _ hl)), _, rfl, by omega, by rw [List.length_map]; omega, fun D2 hD2 => ?_⟩
      have hks : ((("int" : Str)) :: kl).length = names.length := by simp; omega
      have hkk2 : SqL K (upd H1 kk (.lst ([V.str "int"] ++ kl.map V.str))) kk (((("int" : Str)) :: kl).map V.str) := SqL.of upd_same
      refine lc_ok walk_range (fun i y H => ∃ t n k, y = .ref t ∧ names[i]? = some n ∧ ((("int" : Str)) :: kl)[i]? = some k ∧ SqT K H t [.str n, .str k]) hD2 (by rw [List.length_map]; exact Nat.lt_of_le_of_lt (show _ ≤ 12 by omega) (by decide)) (fun _ _ => trivial) (fun i y H H' _ e ⟨t, n, k, h1, h2, h3, h4⟩ => ⟨t, n, k, h1, h2, h3, sameT_t e h4⟩) (fun _ _ _ _ h => by rw [h.1]; exact Same.refl _) ?_ ?_
      · rintro i x H2 H' hi s2 ⟨rfl, rfl⟩ Q' k
        rw [List.length_map] at hi
        have hi' : i < names.length := by omega
        have h1 : names[i]? = some names[i] := List.getElem?_eq_getElem hi'
        have h2 : ((("int" : Str)) :: kl)[i]? = some (((("int" : Str)) :: kl)[i]'(by omega)) := List.getElem?_eq_getElem (by omega)
        refine ⟨rfl, _, rfl, _, rfl, l, _, _, .str names[i], rfl, rfl, SqL.of (s2 _ _ (e4 _ _ hl)), ?_, _, rfl, _, rfl, kk, _, _, .str (((("int" : Str)) :: kl)[i]'(by omega)), rfl, rfl, Same.seq s2 hkk2, ?_, by show 2 ≤ sizeLine; decide, fun t ht => k _ _ (same_new ht) ⟨t, _, _, rfl, h1, h2, SqT.of upd_same⟩⟩
        · rw [show (0 : Int) + (i : Int) = (i : Int) by omega]
          exact atI_nat (by rw [List.getElem?_map, h1]; rfl)
        · rw [show (0 : Int) + (i : Int) = (i : Int) by omega]
          exact atI_nat (by rw [List.getElem?_map, h2]; rfl)
      · intro H2 acc s2 hacc2 hl2 hr2
        rw [List.length_map] at hl2
        have hl2' : acc.length = names.length := by omega
        refine ⟨D2, acc, rfl, .inl ⟨SqL.of hacc2, fun t ht => ?_⟩⟩
        have e5 := same_new ht (o := .tup acc)
        refine q (.ref t) (names.zip ((("int" : Str)) :: kl)) _ (List.map_fst_zip (by omega)) (fun c hc => ?_) ((e4.trans s2).trans e5) (.tup (SqT.of upd_same) (DaL.of (by rw [colsD, List.length_map, List.length_zip]; omega) fun i v d hv hd => ?_))
        · have h2 := (List.of_mem_zip (a := c.1) (b := c.2) hc).2
          rcases List.mem_cons.mp h2 with h | h
          · rw [h]; decide +kernel
          · exact hkl _ h
        · obtain ⟨t', n, k, rfl, h1, h2, h3⟩ := hr2 i v hv
          rw [colsD, List.getElem?_map, Option.map_eq_some_iff] at hd
          obtain ⟨c, hc, rfl⟩ := hd
          rw [List.getElem?_zip_eq_some] at hc
          rw [h1, h2] at hc
          obtain ⟨q1, q2⟩ := hc
          cases q1; cases q2
          have hk2 : kindS c.2 = true := by
            rcases List.mem_cons.mp (List.mem_of_getElem? h2) with h | h
            · rw [h]; decide +kernel
            · exact hkl _ h
          have hk3 : c.2.length ≤ 1000000 := by
            rcases kindS_or hk2 with h | h | h <;> rw [h] <;> decide +kernel
          exact .tup (same_t e5 h3) (.cons (.str _ (Nat.le_trans (nameS_small (hok _ (List.mem_of_getElem? h1))).1 (by decide))) (.cons (.str _ hk3) .nil))
end
end Z
set_option Elab.async false
set_option linter.all false
set_option autoImplicit false
set_option maxRecDepth 100000
set_option maxHeartbeats 4000000
namespace Z
open PySem PySem.Spec PyProof.Rows L2
def rowOk (cols : List (Str × Str)) (ds : List PyData) : Prop := rowD cols (.tuple ds) = true ∧ ∀ d ∈ ds, scalD d = true ∧ smallD d
theorem pure_scal {d : PyData} (h : scalD d = true) : pureD d = true := by cases d <;> first | rfl | cases h
theorem pure_row : ∀ {ds : List PyData}, (∀ d ∈ ds, scalD d = true ∧ smallD d) → pureD.pureL ds = true
  | [], _ => rfl
  | d :: ds, h => by
    rw [pureD.pureL, pure_scal (h d (List.mem_cons_self ..)).1, pure_row fun e he => h e (List.mem_cons_of_mem _ he)]; rfl
theorem pure_rows {cols : List (Str × Str)} : ∀ {ls : List (List PyData)}, (∀ ds ∈ ls, rowOk cols ds) → pureD.pureL (rowsD ls) = true
  | [], _ => rfl
  | ds :: ls, h => by
    show (pureD (.tuple ds) && pureD.pureL (rowsD ls)) = true
    rw [pure_rows fun e he => h e (List.mem_cons_of_mem _ he)]
    show (pureD.pureL ds && true) = true
    rw [pure_row (h ds (List.mem_cons_self ..)).2]; rfl
section
variable {K : PySem.W.Frag} {H : Hp}
mutual
theorem Da.dp : ∀ {v : V} {d : PyData}, d.canLay0 = true → Da K H v d → Dp K H v d
  | _, _, _, .non => .non
  | _, _, _, .bl b => .bl b
  | _, _, _, .int i => .int i
  | _, _, _, .str x h => .str x
  | _, _, p, .lst h t => .lst h (DaL.dp (by simpa [PyData.canLay0] using p) t)
  | _, _, p, .tup h t => .tup h (DaL.dp (by simpa [PyData.canLay0] using p) t)
  | _, _, p, .dic h => by simp [PyData.canLay0] at p
theorem DaL.dp : ∀ {vs : List V} {ds : List PyData}, PyData.canLayAll0 ds = true → DaL K H vs ds → DpAll K H vs ds
  | _, _, _, .nil => .nil
  | _, _, p, .cons h t => by
    simp only [PyData.canLayAll0, Bool.and_eq_true] at p
    exact .cons (Da.dp p.1 h) (DaL.dp p.2 t)
end
end
theorem lay_row : ∀ {ds : List PyData}, (∀ d ∈ ds, scalD d = true ∧ smallD d) → PyData.canLayAll0 ds = true ∧ PyData.depthAll ds ≤ 1
  | [], _ => by simp [PyData.canLayAll0, PyData.depthAll]
  | d :: ds, h => by
    have ih := lay_row fun e he => h e (List.mem_cons_of_mem _ he)
    have h1 := h d (List.mem_cons_self ..)
    have h2 : d.canLay0 = true ∧ d.depth ≤ 1 := by
      cases d with
      | none => simp [PyData.canLay0, PyData.depth]
      | bool b => simp [PyData.canLay0, PyData.depth]
      | int i => simp [PyData.canLay0, PyData.depth]
      | str z => have := h1.2.2; simp [PyData.canLay0, PyData.depth, this]
      | _ => cases h1.1
    simp only [PyData.canLayAll0, PyData.depthAll, Bool.and_eq_true]
    exact ⟨⟨h2.1, ih.1⟩, by omega⟩
theorem lay_rows {cols : List (Str × Str)} : ∀ {ls : List (List PyData)}, (∀ ds ∈ ls, rowOk cols ds) → PyData.canLayAll0 (rowsD ls) = true ∧ PyData.depthAll (rowsD ls) ≤ 2
  | [], _ => by simp [rowsD, PyData.canLayAll0, PyData.depthAll]
  | ds :: ls, h => by
    have ih := lay_rows fun e he => h e (List.mem_cons_of_mem _ he)
    have h1 := lay_row (h ds (List.mem_cons_self ..)).2
    show PyData.canLayAll0 (.tuple ds :: rowsD ls) = true ∧ PyData.depthAll (.tuple ds :: rowsD ls) ≤ 2
    simp only [PyData.canLayAll0, PyData.depthAll, PyData.canLay0, PyData.depth, Bool.and_eq_true]
    exact ⟨⟨h1.1, ih.1⟩, by omega⟩
theorem shaped_of {d : PyData} (h : d.canLay0 = true) (h2 : d.depth ≤ 64) : SeqAt.shaped d = true := by
  unfold SeqAt.shaped; rw [h, decide_eq_true h2]; rfl
theorem shaped_rows {cols : List (Str × Str)} {ls : List (List PyData)} (h : ∀ ds ∈ ls, rowOk cols ds) : SeqAt.shaped (.list (rowsD ls)) = true := by
  have := lay_rows h
  exact shaped_of (by simpa [PyData.canLay0] using this.1) (by simp only [PyData.depth]; omega)
theorem push_row {K : PySem.W.Frag} {H1 : Hp} {o : Addr} {rows : List V} {ls : List (List PyData)} {y : V} {ds : List PyData} {cols : List (Str × Str)} (ho : H1 o = some (.lst rows)) (hr : DaL K H1 rows (rowsD ls)) (hy : Da K H1 y (.tuple ds))
    (h1 : ∀ ds ∈ ls, rowOk cols ds) (h2 : rowOk cols ds) : DaL K (upd H1 o (.lst (rows ++ [y]))) (rows ++ [y]) (rowsD (ls ++ [ds])) := by
  have sT : SameT H1 (upd H1 o (.lst (rows ++ [y]))) := sameT_list ho
  have hr2 := DaL.monoT sT (pure_rows h1) hr
  have hy2 := Da.monoT sT (show pureD (.tuple ds) = true from pure_row h2.2) hy
  have e : rowsD (ls ++ [ds]) = rowsD ls ++ [.tuple ds] := by simp [rowsD]
  rw [e]
  have hlen := DaL.length hr2
  refine DaL.of (by simp [hlen]) fun i v d hv hd => ?_
  by_cases hi : i < rows.length
  · rw [List.getElem?_append_left hi] at hv
    rw [List.getElem?_append_left (by omega)] at hd
    obtain ⟨d', h3, h4⟩ := DaL.get hr2 hv
    rw [hd] at h3; cases h3; exact h4
  · have hi2 : i = rows.length := by
      have := (List.getElem?_eq_some_iff.mp hv).1
      simp at this; omega
    subst hi2
    rw [List.getElem?_append_right (Nat.le_refl _)] at hv
    rw [List.getElem?_append_right (by omega)] at hd
    simp [← hlen] at hv hd
    subst hv hd
    exact hy2
theorem pick_all {α : Type} {f : α → V} : ∀ {acc : List V} {R : Nat → α → Prop}, (∀ (i : Nat) y, acc[i]? = some y → ∃ e, y = f e ∧ R i e) → ∃ ds : List α, acc = ds.map f ∧ ∀ (i : Nat) e, ds[i]? = some e → R i e
  | [], R, _ => ⟨[], rfl, fun i e h => by simp at h⟩
  | a :: acc, R, h => by
    obtain ⟨z, hz, hq⟩ := h 0 a rfl
    obtain ⟨l, e, hl⟩ := pick_all (acc := acc) (R := fun i => R (i + 1)) fun i y hy => h (i + 1) y hy
    refine ⟨z :: l, by rw [hz, e]; rfl, fun i x hx => ?_⟩
    cases i with
    | zero => cases hx; exact hq
    | succ i => exact hl i x hx
theorem row_of {cols : List (Str × Str)} {ds : List PyData} (hl : ds.length = cols.length) (h : ∀ (i : Nat) e, ds[i]? = some e → ∃ c, cols[i]? = some c ∧ valueD c.2 e = true ∧ scalD e = true ∧ smallD e) : rowOk cols ds := by
  refine ⟨?_, fun d hd => ?_⟩
  · show (ds.length == cols.length && (cols.zip ds).all fun p => valueD p.1.2 p.2) = true
    rw [hl, Bool.and_eq_true]
    refine ⟨by simp, List.all_eq_true.mpr fun c hc => ?_⟩
    obtain ⟨i, hi⟩ := List.getElem?_of_mem hc
    obtain ⟨h1, h2⟩ := List.getElem?_zip_eq_some.mp hi
    obtain ⟨c', h3, h4, _⟩ := h i _ h2
    rw [h1] at h3; cases h3; exact h4
  · obtain ⟨i, hi⟩ := List.getElem?_of_mem hd
    obtain ⟨c', h3, h4, h5⟩ := h i _ hi
    exact h5
theorem toV_daL {K : PySem.W.Frag} {H : Hp} : ∀ {ds : List PyData}, (∀ d ∈ ds, scalD d = true ∧ smallD d) → DaL K H (ds.map toV) ds
  | [], _ => .nil
  | d :: ds, h => .cons (toV_da (h d (List.mem_cons_self ..)).1 (h d (List.mem_cons_self ..)).2) (toV_daL fun e he => h e (List.mem_cons_of_mem _ he))
def spLines (K : PySem.W.Frag) : Sp := fun vs H Q _ => ∃ p v many cols, vs = [.ref p, v, .int many] ∧ H p = some (Pool p) ∧ Da K H v (.tuple (colsD cols)) ∧ cols.length ≤ 100 ∧ (∀ c ∈ cols, kindS c.2 = true) ∧ 0 ≤ many ∧ many ≤ 20 ∧
  ∀ u ls H', (ls.length : Int) ≤ many → (∀ ds ∈ ls, rowOk cols ds) → Same H H' → Da K H' u (.tuple (rowsD ls)) → Q u H'
section
variable {P : Program} {w : World} {K : PySem.W.Frag} {mg : Str → Option Value} {base : Heap} {C : Addr}
theorem kn__law_lines (D : Def0 K mg "_law_lines" (top 54)) (T : Txt K mg) (F__law_draw : Kn P w K mg base CX0 "_law_draw" 1 ["pool", "many"] [] spDraw) (F__law_worth : Kn P w K mg base CX0 "_law_worth" 2 ["pool", "kind_here"] [] (spWorth K)) : Kn P w K mg base CX0 "_law_lines" 3 ["pool", "heads", "many"] [] (spLines K) := by
  obtain ⟨f, fd, F, m⟩ := D
  have sc_ : FnScope ["pool", "heads", "many", "found", "turn", "call", "kind_here"] ["pool", "heads", "many"] (defScope (top 54)) := ⟨rfl, rfl, rfl, by decide +kernel, rfl, by decide +kernel, by decide +kernel⟩
  refine kn_of F m (F.ok sc_ (fun vs H Q E h => ?_) (fun cdv A outer s H vs Q E hr h => ?_)) (F.bindsN fun _ _ _ _ _ _ us hl => match us, hl with | [_, _, _], _ => rfl)
  · obtain ⟨p, v, many, cols, rfl, _⟩ := h; rfl
  · obtain ⟨p, v, many, cols, rfl, hp, hv, hcn, hck, hm0, hm1, q⟩ := h
    refine ⟨_, PSs.nox (pss_cons (ps_set (i := 3) sc_.nd rfl (by first | exact Or.inl rfl | exact Or.inr rfl) (pe_lst pa_nil))
      (pss_cons (ps_for PassesOwn.never rfl (pi_range1 (by rfl) T.z_range (pa_cons (pe_own F__law_draw hr (by first | decide | omega | (simp only [Nat.add_eq]; omega)) pass0 (pa_cons (pv 0) (pa_cons (pe_op op_add (pv 2) pe_int) pa_nil))) pa_nil)) (pg_name (i := 4) sc_.nd rfl (by first | exact Or.inl rfl | exact Or.inr rfl))
        (pss_one (ps_if (PW.pt (pw_and (pt_cmpR (k_neD (K := K) hr.units) (pv 3) (pe_lst pa_nil) (nomark _)) (pw_and1 (pt_cmpR op_eq (pe_own F__law_draw hr (by first | decide | omega | (simp only [Nat.add_eq]; omega)) pass0 (pa_cons (pv 0) (pa_cons pe_int pa_nil))) pe_int (nomark _))))) (pss_one (ps_expr (k_bm (K := K) PySem.F.plainAttrs_list PySem.F.slot_list_append PySem.F.type_list_append mt_append (pv 3) (pa_cons (pe_ix (k_ixL (K := K)) (pv 3) (pe_own F__law_draw hr (by first | decide | omega | (simp only [Nat.add_eq]; omega)) pass0 (pa_cons (pv 0) (pa_cons (pe_callB (k_len (K := K)) (by rfl) T.z_len (by decide +kernel) (pa_cons (pv 3) pa_nil)) pa_nil))) (fun _ _ => rfl)) pa_nil)))) (pss_one (ps_expr (k_bm (K := K) PySem.F.plainAttrs_list PySem.F.slot_list_append PySem.F.type_list_append mt_append (pv 3) (pa_cons (pe_callTy (k_tupOf (K := K)) (by rfl) T.z_tuple (by decide +kernel) (pa_cons (pe_lc (own := [("call", 5), ("kind_here", 6)]) (g := gTup K 2 (gCons (gName 5) (gCons (gName 6) gNil))) (by rfl) sc_.nd (k_tup (K := K) (pv 1)) (blkOk_by (N := ["pool", "heads", "many", "found", "turn", "call", "kind_here"]) (sc := defScope (top 54)) (by decide +kernel)) (fun _ _ _ _ _ => (k_pgT (K := K) (pgs_cons (pg_name (i := 5) sc_.nd rfl (by first | exact Or.inl rfl | exact Or.inr rfl)) (pgs_cons (pg_name (i := 6) sc_.nd rfl (by first | exact Or.inl rfl | exact Or.inr rfl)) pgs_nil)))) (fun _ _ _ _ _ => pts_nil) (fun _ _ _ _ _ => (pe_own F__law_worth hr (by first | decide | omega | (simp only [Nat.add_eq]; omega)) pass0 (pa_cons (pv 0) (pa_cons (pv 6) pa_nil))))) pa_nil)) pa_nil)))))))
      (pss_one (ps_ret (pe_callTy (k_tupOf (K := K)) (by rfl) T.z_tuple (by decide +kernel) (pa_cons (pv 3) pa_nil)))))), ?_⟩
    refine ⟨by show 0 ≤ sizeLine; decide, fun o ho => ?_⟩
    have e1 : Same H (upd H o (.lst [])) := same_new ho
    refine ⟨_, rfl, _, rfl, _, _, rfl, rfl, p, many + 1, rfl, e1 _ _ hp, by omega, by omega, fun n H1 hn0 hn1 e2 => ?_⟩
    refine ⟨n, rfl, by omega, by omega, for_range (lo := 0) (n := n.toNat) (fun i σ H' => ∃ (ot : Option V) (rows : List V) (ls : List (List PyData)), σ = [some (.ref p), some v, some (.int many), some (.ref o), ot, none, none] ∧ Same H H' ∧ H' o = some (.lst rows) ∧ DaL K H' rows (rowsD ls) ∧ rows.length ≤ i ∧ ∀ ds ∈ ls, rowOk cols ds)
      ⟨none, [], [], rfl, e1.trans e2, e2 _ _ upd_same, .nil, Nat.le_refl _, fun ds h => by cases h⟩ ?_ ?_⟩
    · rintro i σ H2 hi ⟨ot, rows, ls, rfl, s2, ho2, hrows, hle, hok⟩
      have hlen := DaL.length hrows
      have hrl : (rowsD ls).length = ls.length := by simp [rowsD]
      refine ⟨_, rfl, by show 0 ≤ sizeLine; decide, fun t ht => ?_⟩
      have e3 : Same H2 (upd H2 t (.lst [])) := same_new ht
      have s3 := s2.trans e3
      have ho3 := e3 _ _ ho2
      have hr3 := DaL.mono e3 hrows
      refine ⟨.list (rowsD ls), .list [], .lst (SqL.of ho3) (DaL.dp (lay_rows hok).1 hr3), .lst (SqL.of upd_same) .nil, shaped_rows hok, by decide +kernel, _, rfl, ?_⟩
      refine ite2 (fun c1 => ?_) (fun c1 => iteF ?_)
      · refine ⟨_, rfl, p, 4, rfl, s3 _ _ hp, by decide, by decide, fun c H4 hc0 hc1 e4 => ⟨rfl, _, rfl, ?_⟩⟩
        have s4 := s3.trans e4
        have ho4 := e4 _ _ ho3
        have hr4 := DaL.mono e4 hr3
        refine ite2 (fun c2 => ?_) (fun c2 => ?_)
        · have hne : ls ≠ [] := by
            rintro rfl
            simp [rowsD, PyData.eqv, PyData.eqvAll] at c1
          have hpos : 0 < ls.length := List.length_pos_iff.mpr hne
          refine ⟨_, rfl, .inl ⟨rfl, _, SqL.of ho4⟩, _, rfl, _, rfl, _, rfl, o, _, rfl, .inl (SqL.of ho4), p, _, rfl, s4 _ _ hp, by omega, by omega, fun d H5 hd0 hd1 e5 => ?_⟩
          obtain ⟨nn, rfl⟩ : ∃ nn : Nat, d = (nn : Int) := ⟨d.toNat, by omega⟩
          have hnn : nn < rows.length := by omega
          have hnl : nn < ls.length := by omega
          have ho5 := e5 _ _ ho4
          have hr5 := DaL.mono e5 hr4
          obtain ⟨dd, hdd, hy⟩ := DaL.get hr5 (List.getElem?_eq_getElem hnn)
          have hdd2 : dd = .tuple ls[nn] := by
            have : (rowsD ls)[nn]? = some (.tuple ls[nn]) := by rw [rowsD, List.getElem?_map, List.getElem?_eq_getElem hnl]; rfl
            rw [this] at hdd; exact (Option.some.inj hdd).symm
          subst hdd2
          refine ⟨o, _, _, rows[nn], rfl, rfl, SqL.of ho5, atI_nat (List.getElem?_eq_getElem hnn), o, rows, _, rfl, rfl, ho5, Nat.lt_of_le_of_lt (show rows.length ≤ 100 by omega) (by decide), ?_⟩
          have hok2 := hok _ (List.getElem_mem hnl)
          exact ⟨_, _, ls ++ [ls[nn]], rfl, same_app (s4.trans e5) ho, upd_same, push_row ho5 hr5 hy hok hok2, by simp; omega, fun es hes => by
            rcases List.mem_append.mp hes with h | h
            · exact hok es h
            · simp at h; rw [h]; exact hok2⟩
        · clear c2
          cases hv with
          | @tup b xs _ hb hl =>
            have hxl := DaL.length hl
            have hcl : (colsD cols).length = cols.length := by simp [colsD]
            refine ⟨_, rfl, .inl ⟨rfl, _, SqL.of ho4⟩, _, rfl, b, rfl, ⟨_, same_t s4 hb⟩, fun D hD => lc_ok (walk_tup (K := K) (xs := xs)) (fun i y _ => ∃ e c, y = toV e ∧ cols[i]? = some c ∧ valueD c.2 e = true ∧ scalD e = true ∧ smallD e) hD (by rw [hxl, hcl]; exact Nat.lt_of_le_of_lt hcn (by decide)) (fun H5 e => same_t (s4.trans e) hb) (fun _ _ _ _ _ _ h => h) (fun _ _ _ _ h => by rw [h.1]; exact Same.refl _) ?_ ?_⟩
            · rintro i x H5 H' hi s5 ⟨rfl, hx⟩ Q' k
              obtain ⟨d, hd1, hd2⟩ := DaL.get hl hx
              rw [colsD, List.getElem?_map, Option.map_eq_some_iff] at hd1
              obtain ⟨c, hc, rfl⟩ := hd1
              cases hd2 with
              | @tup r ys _ hr1 hl2 =>
                cases hl2 with
                | cons h1 h2 =>
                  cases h2 with
                  | cons h3 h4 =>
                    cases h4; cases h1; cases h3
                    exact ⟨r, _, rfl, same_t (s4.trans s5) hr1, rfl, _, _, rfl, _, _, rfl, rfl, rfl, _, rfl, _, rfl, p, c.2, rfl, (s4.trans s5) _ _ hp, hck c (List.mem_of_getElem? hc), fun e H6 a1 a2 a3 e6 => k _ _ e6 ⟨e, c, rfl, hc, a1, a2, a3⟩⟩
            · intro H5 acc s5 hacc hla hra
              obtain ⟨ds, rfl, hds⟩ := pick_all (f := toV) (R := fun i e => ∃ c, cols[i]? = some c ∧ valueD c.2 e = true ∧ scalD e = true ∧ smallD e) (fun i y hy => by obtain ⟨e, c, h1, h2⟩ := hra i y hy; exact ⟨e, h1, c, h2⟩)
              rw [List.length_map] at hla
              have hok2 : rowOk cols ds := row_of (by omega) hds
              refine ⟨D, _, rfl, .inl ⟨SqL.of hacc, fun t5 ht5 => ?_⟩⟩
              have e5 := s5.trans (same_new ht5 (o := .tup (ds.map toV)))
              have ho5 := e5 _ _ ho4
              refine ⟨o, rows, _, rfl, rfl, ho5, Nat.lt_of_le_of_lt (show rows.length ≤ 100 by omega) (by decide), ?_⟩
              exact ⟨_, _, ls ++ [ds], rfl, same_app (s4.trans e5) ho, upd_same, push_row ho5 (DaL.mono e5 hr4) (.tup (SqT.of upd_same) (toV_daL hok2.2)) hok hok2, by simp; omega, fun es hes => by
                rcases List.mem_append.mp hes with h | h
                · exact hok es h
                · simp at h; rw [h]; exact hok2⟩
      · have s4 := s3
        have ho4 := ho3
        have hr4 := hr3
        cases hv with
        | @tup b xs _ hb hl =>
          have hxl := DaL.length hl
          have hcl : (colsD cols).length = cols.length := by simp [colsD]
          refine ⟨_, rfl, .inl ⟨rfl, _, SqL.of ho4⟩, _, rfl, b, rfl, ⟨_, same_t s4 hb⟩, fun D hD => lc_ok (walk_tup (K := K) (xs := xs)) (fun i y _ => ∃ e c, y = toV e ∧ cols[i]? = some c ∧ valueD c.2 e = true ∧ scalD e = true ∧ smallD e) hD (by rw [hxl, hcl]; exact Nat.lt_of_le_of_lt hcn (by decide)) (fun H5 e => same_t (s4.trans e) hb) (fun _ _ _ _ _ _ h => h) (fun _ _ _ _ h => by rw [h.1]; exact Same.refl _) ?_ ?_⟩
          · rintro i x H5 H' hi s5 ⟨rfl, hx⟩ Q' k
            obtain ⟨d, hd1, hd2⟩ := DaL.get hl hx
            rw [colsD, List.getElem?_map, Option.map_eq_some_iff] at hd1
            obtain ⟨c, hc, rfl⟩ := hd1
            cases hd2 with
            | @tup r ys _ hr1 hl2 =>
              cases hl2 with
              | cons h1 h2 =>
                cases h2 with
                | cons h3 h4 =>
                  cases h4; cases h1; cases h3
                  exact ⟨r, _, rfl, same_t (s4.trans s5) hr1, rfl, _, _, rfl, _, _, rfl, rfl, rfl, _, rfl, _, rfl, p, c.2, rfl, (s4.trans s5) _ _ hp, hck c (List.mem_of_getElem? hc), fun e H6 a1 a2 a3 e6 => k _ _ e6 ⟨e, c, rfl, hc, a1, a2, a3⟩⟩
          · intro H5 acc s5 hacc hla hra
            obtain ⟨ds, rfl, hds⟩ := pick_all (f := toV) (R := fun i e => ∃ c, cols[i]? = some c ∧ valueD c.2 e = true ∧ scalD e = true ∧ smallD e) (fun i y hy => by obtain ⟨e, c, h1, h2⟩ := hra i y hy; exact ⟨e, h1, c, h2⟩)
            rw [List.length_map] at hla
            have hok2 : rowOk cols ds := row_of (by omega) hds
            refine ⟨D, _, rfl, .inl ⟨SqL.of hacc, fun t5 ht5 => ?_⟩⟩
            have e5 := s5.trans (same_new ht5 (o := .tup (ds.map toV)))
            have ho5 := e5 _ _ ho4
            refine ⟨o, rows, _, rfl, rfl, ho5, Nat.lt_of_le_of_lt (show rows.length ≤ 100 by omega) (by decide), ?_⟩
            exact ⟨_, _, ls ++ [ds], rfl, same_app (s4.trans e5) ho, upd_same, push_row ho5 (DaL.mono e5 hr4) (.tup (SqT.of upd_same) (toV_daL hok2.2)) hok hok2, by simp; omega, fun es hes => by
              rcases List.mem_append.mp hes with h | h
              · exact hok es h
              · simp at h; rw [h]; exact hok2⟩
    · rintro σ H2 ⟨ot, rows, ls, rfl, s2, ho2, hrows, hle, hok⟩
      have hlen := DaL.length hrows
      have hrl : (rowsD ls).length = ls.length := by simp [rowsD]
      refine ⟨_, rfl, o, rows, rfl, .inl ⟨SqL.of ho2, fun t ht => ?_⟩⟩
      have e3 := same_new ht (o := .tup rows)
      exact q _ ls _ (by omega) hok (s2.trans e3) (.tup (SqT.of upd_same) (DaL.mono e3 hrows))
end
end Z
set_option Elab.async false
set_option linter.all false
set_option autoImplicit false
set_option maxRecDepth 100000
set_option maxHeartbeats 4000000
namespace Z
open PySem PySem.Spec PyProof.Rows L2
theorem fold_rep : ∀ (k : Nat) (acc : Array Nat), (List.replicate k #[32]).foldl (· ++ ·) acc = acc ++ Array.replicate k 32
  | 0, acc => by simp
  | k + 1, acc => by
    rw [List.replicate_succ, List.foldl_cons, fold_rep k]
    apply Array.ext'
    simp [List.replicate_succ]
theorem mul_sp (n : Int) : Txt.mul " " n = ⟨Array.replicate n.toNat 32⟩ := by
  have e : (" " : Str) = ⟨#[32]⟩ := by decide +kernel
  unfold Txt.mul
  split
  · rw [show n.toNat = 0 by omega]; rfl
  · rw [e]
    split
    · rename_i h1 h2
      have : n = 1 := by
        simp [Str.length] at h2; exact h2
      subst this; rfl
    · show (⟨(List.replicate n.toNat #[32]).foldl (· ++ ·) #[]⟩ : Str) = _
      rw [fold_rep]; simp
theorem str_app (a b : Str) : a ++ b = ⟨a.cps ++ b.cps⟩ := rfl
theorem ljust_eq (z : Str) : Txt.ljust z 10 = z ++ Txt.mul " " (10 - (z.length : Int)) := by
  rw [mul_sp, str_app]
  unfold Txt.ljust
  split
  · rw [show ((10 : Int) - (z.length : Int)).toNat = 0 by omega]; simp
  · unfold Builtin.Str.padded
    rw [show ((10 : Int) - (z.length : Int)).toNat = 10 - z.length by omega]
    simp
theorem rjust_eq (z : Str) : Txt.rjust z 10 = Txt.mul " " (10 - (z.length : Int)) ++ z := by
  rw [mul_sp, str_app]
  unfold Txt.rjust
  split
  · rw [show ((10 : Int) - (z.length : Int)).toNat = 0 by omega]; simp
  · unfold Builtin.Str.padded
    rw [show ((10 : Int) - (z.length : Int)).toNat = 10 - z.length by omega]
    simp
theorem mul_sp_len (n : Int) : (Txt.mul " " n).length = n.toNat := by rw [mul_sp]; simp [Str.length]
def wideOk (cols : List (Str × Str)) : Prop := colsOk cols ∧ cols.length ≤ 12
def spWide (K : PySem.W.Frag) : Sp := fun vs H Q _ => ∃ p, vs = [.ref p] ∧ H p = some (Pool p) ∧ ∀ v cols H', wideOk cols → Same H H' → Da K H' v (.tuple (colsD cols)) → Q v H'
def spPadded (K : PySem.W.Frag) : Sp := fun vs H Q _ => ∃ v d, vs = [v] ∧ Da K H v d ∧ scalD d = true ∧ smallD d ∧ ∀ H', Same H H' → Q (.str (cellS d)) H'
section
variable {P : Program} {w : World} {K : PySem.W.Frag} {mg : Str → Option Value} {base : Heap} {C : Addr}
theorem kn__law_wide (D : Def0 K mg "_law_wide" (top 55)) (T : Txt K mg) (F__law_draw : Kn P w K mg base CX0 "_law_draw" 1 ["pool", "many"] [] spDraw) (F__law_calls : Kn P w K mg base CX0 "_law_calls" 2 ["pool", "many"] [] spCalls) (F__law_heads : Kn P w K mg base CX0 "_law_heads" 2 ["pool", "calls"] [] (spHeads K)) : Kn P w K mg base CX0 "_law_wide" 3 ["pool"] [] (spWide K) := by
  obtain ⟨f, fd, F, m⟩ := D
  have sc_ : FnScope ["pool"] ["pool"] (defScope (top 55)) := ⟨rfl, rfl, rfl, by decide +kernel, rfl, by decide +kernel, by decide +kernel⟩
  refine kn_of F m (F.ok sc_ (fun vs H Q E h => ?_) (fun cdv A outer s H vs Q E hr h => ?_)) (F.bindsN fun _ _ _ _ _ _ us hl => match us, hl with | [_], _ => rfl)
  · obtain ⟨p, rfl, _⟩ := h; rfl
  · obtain ⟨p, rfl, hp, q⟩ := h
    refine ⟨_, PSs.nox (pss_one (ps_ret (pe_own F__law_heads hr (by first | decide | omega | (simp only [Nat.add_eq]; omega)) pass0 (pa_cons (pv 0) (pa_cons (pe_own F__law_calls hr (by first | decide | omega | (simp only [Nat.add_eq]; omega)) pass0 (pa_cons (pv 0) (pa_cons (pe_op op_add pe_int (pe_own F__law_draw hr (by first | decide | omega | (simp only [Nat.add_eq]; omega)) pass0 (pa_cons (pv 0) (pa_cons pe_int pa_nil)))) pa_nil))) pa_nil))))), ?_⟩
    refine ⟨_, rfl, _, rfl, _, rfl, p, 12, rfl, hp, by decide, by decide, fun n H1 hn0 hn1 e1 => ⟨_, _, rfl, rfl, p, 1 + n, rfl, e1 _ _ hp, by omega, by omega, fun l names H2 hl hok hnd e2 h2 => ?_⟩⟩
    refine ⟨p, l, names, rfl, (e1.trans e2) _ _ hp, h2, (by rintro rfl; simp at hl; omega), by omega, hok, fun v cols H3 hc hk e3 hd => ?_⟩
    have hlen : cols.length = names.length := by rw [← hc, List.length_map]
    refine q v cols H3 ⟨⟨?_, by omega, fun c h => ⟨hok _ (by rw [← hc]; exact List.mem_map_of_mem h), hk c h⟩, by rw [hc]; exact hnd⟩, by omega⟩ ((e1.trans e2).trans e3) hd
    rintro rfl
    simp at hlen; omega
theorem kn__law_padded (D : Def0 K mg "_law_padded" (top 56)) (T : Txt K mg) : Kn P w K mg base CX0 "_law_padded" 1 ["worth"] [] (spPadded K) := by
  obtain ⟨f, fd, F, m⟩ := D
  have sc_ : FnScope ["worth", "shown"] ["worth"] (defScope (top 56)) := ⟨rfl, rfl, rfl, by decide +kernel, rfl, by decide +kernel, by decide +kernel⟩
  refine kn_of F m (F.ok sc_ (fun vs H Q E h => ?_) (fun cdv A outer s H vs Q E hr h => ?_)) (F.bindsN fun _ _ _ _ _ _ us hl => match us, hl with | [_], _ => rfl)
  · obtain ⟨v, d, rfl, _⟩ := h; rfl
  · obtain ⟨v, d, rfl, hd, hs, hz, q⟩ := h
    refine ⟨_, PSs.nox (pss_cons (ps_if (PW.pt (pw_and (pt_val (pe_callB (k_isi (K := K)) (by rfl) T.z_isinstance (by decide +kernel) (pa_cons (pv 0) (pa_cons (pe_bltn (v := .ty "int") (by rfl) T.z_int (by decide +kernel) rfl) pa_nil)))) (pw_and1 (pt_not (pt_val (pe_callB (k_isi (K := K)) (by rfl) T.z_isinstance (by decide +kernel) (pa_cons (pv 0) (pa_cons (pe_bltn (v := .ty "bool") (by rfl) T.z_bool (by decide +kernel) rfl) pa_nil)))))))) (pss_one (ps_ret (pe_op op_add_str (pe_op op_mul_str pe_str (pe_op op_sub pe_int (pe_callB call_len_str (by rfl) T.z_len (by decide +kernel) (pa_cons (pe_callTy call_str_int (by rfl) T.z_str (by decide +kernel) (pa_cons (pv 0) pa_nil)) pa_nil)))) (pe_callTy call_str_int (by rfl) T.z_str (by decide +kernel) (pa_cons (pv 0) pa_nil))))) pss_nil)
      (pss_cons (ps_set (i := 1) sc_.nd rfl (by first | exact Or.inl rfl | exact Or.inr rfl) (pe_ifExp (pt_cmpR op_isN (pv 0) pe_non (nomark _)) pe_str (pv 0)))
      (pss_cons (ps_if (pt_val (pe_callB (k_isi (K := K)) (by rfl) T.z_isinstance (by decide +kernel) (pa_cons (pv 0) (pa_cons (pe_bltn (v := .ty "bool") (by rfl) T.z_bool (by decide +kernel) rfl) pa_nil)))) (pss_one (ps_set (i := 1) sc_.nd rfl (by first | exact Or.inl rfl | exact Or.inr rfl) (pe_ix (k_ixL (K := K)) (pe_lst (pa_cons pe_str (pa_cons pe_str pa_nil))) (pe_callTy call_int1 (by rfl) T.z_int (by decide +kernel) (pa_cons (pv 0) pa_nil)) (fun _ _ => rfl)))) pss_nil)
      (pss_one (ps_ret (pe_op op_add_str (pv 1) (pe_op op_mul_str pe_str (pe_op op_sub pe_int (pe_callB call_len_str (by rfl) T.z_len (by decide +kernel) (pa_cons (pv 1) pa_nil)))))))))), ?_⟩
    refine ⟨_, rfl, ?_⟩
    refine ⟨_, _, _, _, _, rfl, .ty _, Da.ty hd, kit_D _ "int" (by decide), ?_⟩
    refine ⟨_, rfl, ?_⟩
    have tail : ∀ (z : Str) (H1 : Hp), Same H H1 → z.length ≤ 1000 → cellS d = Txt.ljust z 10 → ∃ y, [some v, some (V.str z)][1]? = some (some y) ∧ (rMulS (.str " ") (.int (10 - (z.length : Int))) H1 fun w1 H2 => ∃ i j, V.str z = .str i ∧ w1 = .str j ∧ i.length + j.length ≤ sizeLine ∧ Q (.str (i ++ j)) H2) := fun z H1 e1 hz1 he => by
      refine ⟨_, rfl, _, _, rfl, rfl, mul_small (by decide +kernel) (by omega) (by omega), _, _, rfl, rfl, ?_, ?_⟩
      · rw [mul_sp_len]; have : (2000 : Nat) ≤ sizeLine := by decide
        omega
      · rw [← ljust_eq, ← he]; exact q _ e1
    have hd0 := hd
    cases hd with
    | int i =>
      refine iteT ?_
      refine ⟨_, rfl, ?_⟩
      refine ⟨_, _, _, _, _, rfl, .ty _, Da.ty hd0, kit_D _ "bool" (by decide), ?_⟩
      refine ⟨_, rfl, iteT ?_⟩
      have hl : (Str.ofString (toString i)).length ≤ 1000 := hz.2.1
      refine ⟨_, rfl, _, rfl, hz.1, _, rfl, Nat.le_trans hl (by decide), _, _, rfl, rfl, _, _, rfl, rfl, mul_small (by decide +kernel) (by omega) (by omega), _, rfl, _, rfl, hz.1, _, _, rfl, rfl, ?_, ?_⟩
      · rw [mul_sp_len]; have : (2000 : Nat) ≤ sizeLine := by decide
        omega
      · rw [← rjust_eq]; exact q _ (Same.refl _)
    | non =>
      refine iteF ?_
      refine ⟨_, rfl, rfl, _, rfl, iteT ?_⟩
      refine ⟨_, rfl, ?_⟩
      refine ⟨_, _, _, _, _, rfl, .ty _, Da.ty hd0, kit_D _ "bool" (by decide), ?_⟩
      refine ⟨_, rfl, iteF ?_⟩
      obtain ⟨y, h1, h2⟩ := tail "-" H (Same.refl _) (by decide +kernel) rfl
      exact ⟨_, rfl, _, rfl, _, rfl, by decide +kernel, _, _, rfl, rfl, h2⟩
    | bl b =>
      refine iteT ?_
      refine ⟨_, rfl, ?_⟩
      refine ⟨_, _, _, _, _, rfl, .ty _, Da.ty hd0, kit_D _ "bool" (by decide), ?_⟩
      refine ⟨_, rfl, iteF ?_⟩
      refine ⟨_, rfl, rfl, _, rfl, iteF ?_⟩
      refine ⟨_, rfl, _, rfl, ?_⟩
      refine ⟨_, _, _, _, _, rfl, .ty _, Da.ty hd0, kit_D _ "bool" (by decide), ?_⟩
      refine ⟨_, rfl, iteT ?_⟩
      refine ⟨by show 2 ≤ sizeLine; decide, fun t ht => ⟨_, rfl, .inr ⟨b, rfl, t, _, _, .str (truthS b), rfl, rfl, SqL.of upd_same, (by cases b <;> rfl), ?_⟩⟩⟩
      obtain ⟨y, h1, h2⟩ := tail (truthS b) _ (same_new ht) (by cases b <;> decide +kernel) rfl
      exact ⟨_, rfl, _, rfl, _, rfl, (by cases b <;> decide +kernel), _, _, rfl, rfl, h2⟩
    | str z hz1 =>
      refine iteF ?_
      refine ⟨_, rfl, rfl, _, rfl, iteF ?_⟩
      refine ⟨_, rfl, _, rfl, ?_⟩
      refine ⟨_, _, _, _, _, rfl, .ty _, Da.ty hd0, kit_D _ "bool" (by decide), ?_⟩
      refine ⟨_, rfl, iteF ?_⟩
      obtain ⟨y, h1, h2⟩ := tail z _ (Same.refl _) hz.1 rfl
      exact ⟨_, rfl, _, rfl, _, rfl, Nat.le_trans hz.1 (by decide), _, _, rfl, rfl, h2⟩
    | _ => cases hs
end
end Z
set_option Elab.async false
set_option linter.all false
set_option autoImplicit false
set_option maxRecDepth 100000
set_option maxHeartbeats 4000000
namespace Z
open PySem PySem.Spec PyProof.Rows L2
theorem strOk_iff (z : Str) : PyData.strOk z = true ↔ ∀ c ∈ z.cps.toList, c < 0x110000 := by
  unfold PyData.strOk
  rw [← Array.all_toList, List.all_eq_true]
  simp
theorem ok_pad {z : Str} {l r : Nat} (h : PyData.strOk z = true) : PyData.strOk (Builtin.Str.padded z l r 32) = true := by
  rw [strOk_iff] at h ⊢
  intro c hc
  unfold Builtin.Str.padded at hc
  simp only [Array.toList_append, List.mem_append, Array.toList_replicate, List.mem_replicate] at hc
  rcases hc with (hc | hc) | hc
  · omega
  · exact h c hc
  · omega
theorem ok_lj {z : Str} (h : PyData.strOk z = true) : PyData.strOk (Txt.ljust z 10) = true := by
  unfold Txt.ljust; split
  · exact h
  · exact ok_pad h
theorem ok_rj {z : Str} (h : PyData.strOk z = true) : PyData.strOk (Txt.rjust z 10) = true := by
  unfold Txt.rjust; split
  · exact h
  · exact ok_pad h
theorem ok_cell {d : PyData} (h : smallD d) : PyData.strOk (cellS d) = true := by
  cases d with
  | none => exact ok_lj (by decide +kernel)
  | bool b => cases b <;> exact ok_lj (by decide +kernel)
  | int i => exact ok_rj h.2.2
  | str z => exact ok_lj h.2
  | _ => show PyData.strOk "" = true; decide +kernel
theorem ok_fold (g : Str) (hg : PyData.strOk g = true) : ∀ (l : List Str) (acc : Array Nat), (∀ z ∈ l, PyData.strOk z = true) → (∀ c ∈ acc.toList, c < 0x110000) → ∀ c ∈ (l.foldl (fun acc p => acc ++ g.cps ++ p.cps) acc).toList, c < 0x110000
  | [], acc, _, h => h
  | z :: l, acc, hl, h => by
    rw [List.foldl_cons]
    refine ok_fold g hg l _ (fun y hy => hl y (List.mem_cons_of_mem _ hy)) fun c hc => ?_
    simp only [Array.toList_append, List.mem_append] at hc
    rcases hc with (hc | hc) | hc
    · exact h c hc
    · exact (strOk_iff g).mp hg c hc
    · exact (strOk_iff z).mp (hl z (List.mem_cons_self ..)) c hc
theorem ok_join {g : Str} {l : List Str} (hg : PyData.strOk g = true) (h : ∀ z ∈ l, PyData.strOk z = true) : PyData.strOk (Txt.join g l) = true := by
  rw [strOk_iff]
  cases l with
  | nil => intro c hc; simp [Txt.join, Builtin.Str.glued, Str.empty] at hc
  | cons a l =>
    show ∀ c ∈ (List.foldl (fun acc p => acc ++ g.cps ++ p.cps) a.cps l).toList, c < 0x110000
    exact ok_fold g hg l a.cps (fun z hz => h z (List.mem_cons_of_mem _ hz)) ((strOk_iff a).mp (h a (List.mem_cons_self ..)))
theorem ok_line {ds : List PyData} (h : ∀ d ∈ ds, smallD d) : PyData.strOk (lineS ds) = true := ok_join (by decide +kernel) fun z hz => by
  obtain ⟨d, hd, rfl⟩ := List.mem_map.mp hz
  exact ok_cell (h d hd)
/-- a list of texts as data -/
theorem dp_strs {K : PySem.W.Frag} {H : Hp} {a : Addr} {ss : List Str} (h : SqL K H a (ss.map V.str)) : Dp K H (.ref a) (.list (ss.map PyData.str)) := by
  refine .lst h ?_
  clear h
  induction ss with
  | nil => exact .nil
  | cons z ss ih => exact .cons (.str z) ih
theorem shaped_strs {ss : List Str} (h : ∀ z ∈ ss, PyData.strOk z = true) : SeqAt.shaped (.list (ss.map PyData.str)) = true := by
  have : PyData.canLayAll0 (ss.map PyData.str) = true ∧ PyData.depthAll (ss.map PyData.str) ≤ 1 := by
    induction ss with
    | nil => simp [PyData.canLayAll0, PyData.depthAll]
    | cons z ss ih =>
      have ih := ih fun y hy => h y (List.mem_cons_of_mem _ hy)
      have h1 := h z (List.mem_cons_self ..)
      simp only [List.map_cons, PyData.canLayAll0, PyData.depthAll, PyData.canLay0, PyData.depth, h1, Bool.and_eq_true]
      exact ⟨⟨trivial, ih.1⟩, by omega⟩
  exact shaped_of (by simpa [PyData.canLay0] using this.1) (by simp only [PyData.depth]; omega)
theorem make_same {H H1 : Hp} {x dx C : Addr} (nx : H x = none) (nd : H dx = none) (h : ∀ b o, b ≠ x → (upd (upd H dx (.own x)) x (.ins C dx [])) b = some o → H1 b = some o) : Same H H1 := fun b o q => by
  have h1 := ne_of_none q nx
  exact h b o h1 (by rw [upd_ne h1, upd_ne (ne_of_none q nd)]; exact q)
def spRight : Sp := fun vs H Q _ => ∃ p, vs = [.ref p] ∧ H p = some (Pool p) ∧ ∀ H', Same H H' → Q (.bl true) H'
theorem join_small {l : List Str} {g : Str} {n m : Nat} (h : ∀ z ∈ l, z.length ≤ n) (hg : g.length = 1) (hl : l.length ≤ m) (hb : m * n + m ≤ 16777216) : (l.map (·.length)).sum + l.length * g.length ≤ 16777216 := by
  have h1 := sum_le h
  have h2 : l.length * n ≤ m * n := Nat.mul_le_mul_right _ hl
  rw [hg]; omega
section
variable {P : Program} {w : World} {K : PySem.W.Frag} {mg : Str → Option Value} {base : Heap} {C : Addr}
theorem kn__law_right (D : Def0 K mg "_law_right" (top 57)) (T : Txt K mg) (TF : FrT K C) (F__law_wide : Kn P w K mg base CX0 "_law_wide" 3 ["pool"] [] (spWide K)) (F__law_lines : Kn P w K mg base CX0 "_law_lines" 3 ["pool", "heads", "many"] [] (spLines K))
    (F__law_padded : Kn P w K mg base CX0 "_law_padded" 1 ["worth"] [] (spPadded K)) (M_Frame : MakeK P w K mg base "Frame" C 5 ["self", "schema", "rows"] (spInit K C)) (Q_table : MethK P w K mg base C "table" 5 ["self"] (spTable K C)) : Kn P w K mg base CX0 "_law_right" 8 ["pool"] [] spRight := by
  obtain ⟨f, fd, F, m⟩ := D
  have C_Frame := TF.cl
  have sc_ : FnScope ["pool", "turn", "heads", "lines", "found", "sheet", "line_here", "call", "kind_here", "worth"] ["pool"] (defScope (top 57)) := ⟨rfl, rfl, rfl, by decide +kernel, rfl, by decide +kernel, by decide +kernel⟩
  refine kn_of F m (F.ok sc_ (fun vs H Q E h => ?_) (fun cdv A outer s H vs Q E hr h => ?_)) (F.bindsN fun _ _ _ _ _ _ us hl => match us, hl with | [_], _ => rfl)
  · obtain ⟨p, rfl, _⟩ := h; rfl
  · obtain ⟨p, rfl, hp, q⟩ := h
    refine ⟨_, PSs.nox (pss_cons (ps_for PassesOwn.never rfl (pi_range1 (by rfl) T.z_range (pa_cons pe_int pa_nil)) (pg_name (i := 1) sc_.nd rfl (by first | exact Or.inl rfl | exact Or.inr rfl))
        (pss_cons (ps_set (i := 2) sc_.nd rfl (by first | exact Or.inl rfl | exact Or.inr rfl) (pe_own F__law_wide hr (by first | decide | omega | (simp only [Nat.add_eq]; omega)) pass0 (pa_cons (pv 0) pa_nil)))
      (pss_cons (ps_set (i := 3) sc_.nd rfl (by first | exact Or.inl rfl | exact Or.inr rfl) (pe_own F__law_lines hr (by first | decide | omega | (simp only [Nat.add_eq]; omega)) pass0 (pa_cons (pv 0) (pa_cons (pv 2) (pa_cons pe_int pa_nil)))))
      (pss_cons (ps_set (i := 4) sc_.nd rfl (by first | exact Or.inl rfl | exact Or.inr rfl) (pe_lst (pa_cons (k_join (K := K) pe_str (pe_lc (own := [("call", 7), ("kind_here", 8)]) (g := gTup K 2 (gCons (gName 7) (gCons (gName 8) gNil))) (by rfl) sc_.nd (k_tup (K := K) (pv 2)) (blkOk_by (N := ["pool", "turn", "heads", "lines", "found", "sheet", "line_here", "call", "kind_here", "worth"]) (sc := defScope (top 57)) (by decide +kernel)) (fun _ _ _ _ _ => (k_pgT (K := K) (pgs_cons (pg_name (i := 7) sc_.nd rfl (by first | exact Or.inl rfl | exact Or.inr rfl)) (pgs_cons (pg_name (i := 8) sc_.nd rfl (by first | exact Or.inl rfl | exact Or.inr rfl)) pgs_nil)))) (fun _ _ _ _ _ => pts_nil) (fun _ _ _ _ _ => (pe_own F__law_padded hr (by first | decide | omega | (simp only [Nat.add_eq]; omega)) pass0 (pa_cons (pv 7) pa_nil))))) pa_nil)))
      (pss_cons (ps_set (i := 4) sc_.nd rfl (by first | exact Or.inl rfl | exact Or.inr rfl) (pe_op op_cat (pv 4) (pe_lc (own := [("line_here", 6)]) (g := gName 6) (by rfl) sc_.nd (k_tup (K := K) (pv 3)) (blkOk_by (N := ["pool", "turn", "heads", "lines", "found", "sheet", "line_here", "call", "kind_here", "worth"]) (sc := defScope (top 57)) (by decide +kernel)) (fun _ _ _ _ _ => (pg_name (i := 6) sc_.nd rfl (by first | exact Or.inl rfl | exact Or.inr rfl))) (fun _ _ _ _ _ => pts_nil) (fun _ _ _ _ _ => (k_join (K := K) pe_str (pe_lc (own := [("worth", 9)]) (g := gName 9) (by rfl) sc_.nd (k_tup (K := K) (pv 6)) (blkOk_by (by rfl)) (fun _ _ _ _ _ => (pg_name (i := 9) sc_.nd rfl (by first | exact Or.inl rfl | exact Or.inr rfl))) (fun _ _ _ _ _ => pts_nil) (fun _ _ _ _ _ => (pe_own F__law_padded hr (by first | decide | omega | (simp only [Nat.add_eq]; omega)) pass0 (pa_cons (pv 9) pa_nil)))))))))
      (pss_cons (ps_set (i := 5) sc_.nd rfl (by first | exact Or.inl rfl | exact Or.inr rfl) (pe_makeK M_Frame hr (by decide) (pa_cons (pv 2) (pa_cons (pv 3) pa_nil))))
      (pss_one (ps_if (pt_cmpR (k_neD (K := K) hr.units) (pe_lst (pa_cons (pe_methK0 (K := K) (pv 5) C_Frame Q_table hr (by decide)) (pa_cons (pe_methK0 (K := K) (pv 5) C_Frame Q_table hr (by decide)) pa_nil))) (pe_op op_rep (pe_lst (pa_cons (k_join (K := K) pe_str (pv 4)) pa_nil)) pe_int) (nomark _)) (pss_one (ps_ret pe_bl)) pss_nil))))))))
      (pss_one (ps_ret pe_bl))), ?_⟩
    refine ⟨3, rfl, by decide, by decide, for_range (lo := 0) (n := 3) (fun i σ H' => (∃ o1 o2 o3 o4 o5 c1 c2 c3 c4, σ = [some (.ref p), o1, o2, o3, o4, o5, c1, c2, c3, c4]) ∧ Same H H') ⟨⟨none, none, none, none, none, none, none, none, none, rfl⟩, Same.refl _⟩ ?_ (fun σ H' ⟨_, e⟩ => q _ e)⟩
    rintro i σ H0 hi ⟨⟨o1, o2, o3, o4, o5, c1, c2, c3, c4, rfl⟩, e0⟩
    refine ⟨_, rfl, p, rfl, e0 _ _ hp, fun v cols H1 hw e1 hd => ?_⟩
    have e01 := e0.trans e1
    have hck : ∀ c ∈ cols, kindS c.2 = true := fun c hc => (hw.1.2.2.1 c hc).2
    have hcn : ∀ c ∈ cols, nameS c.1 = true := fun c hc => (hw.1.2.2.1 c hc).1
    refine ⟨_, rfl, _, rfl, p, v, 8, cols, rfl, e01 _ _ hp, hd, Nat.le_trans hw.2 (by decide), hck, by decide, by decide, fun u ls H2 hl hok e2 hu => ?_⟩
    have e02 := e01.trans e2
    have hd2 := hd.mono e2
    have hcl : (colsD cols).length = cols.length := by simp [colsD]
    have hdl : (headD cols).length = cols.length := by simp [headD]
    have hrl : (rowsD ls).length = ls.length := by simp [rowsD]
    have hhs := head_small hcn
    have hls8 : ls.length ≤ 8 := by omega
    have hrow : ∀ ds ∈ ls, ds.length ≤ 12 := fun ds h => by
      have := (hok ds h).1
      simp only [rowD, Bool.and_eq_true, beq_iff_eq] at this
      have h12 := hw.2
      omega
    cases hd2 with
    | @tup b xs _ hb hbl =>
    cases hu with
    | @tup b2 ys _ hb2 hbl2 =>
    have hxl := DaL.length hbl
    have hyl := DaL.length hbl2
    refine ⟨⟨_, rfl⟩, _, rfl, b, rfl, ⟨_, hb⟩, fun D hD => lc_ok (walk_tup (K := K) (xs := xs)) (fun i y _ => ∃ d, (headD cols)[i]? = some d ∧ y = .str (cellS d)) hD (by rw [hxl, hcl]; exact Nat.lt_of_le_of_lt hw.2 (by decide)) (fun H5 e => same_t e hb) (fun _ _ _ _ _ _ h => h) (fun _ _ _ _ h => by rw [h.1]; exact Same.refl _) ?_ ?_⟩
    · rintro i x H5 H' hi s5 ⟨rfl, hx⟩ Q' k
      obtain ⟨d, hd1, hd3⟩ := DaL.get hbl hx
      rw [colsD, List.getElem?_map, Option.map_eq_some_iff] at hd1
      obtain ⟨c, hc, rfl⟩ := hd1
      cases hd3 with
      | @tup r zs _ hr1 hl2 =>
        cases hl2 with
        | cons h1 h2 =>
          cases h2 with
          | cons h3 h4 =>
            cases h4; cases h3
            have hm : (headD cols)[i]? = some (.str c.1) := by rw [headD, List.getElem?_map, hc]; rfl
            have hm2 := hhs _ (List.mem_of_getElem? hm)
            exact ⟨r, _, rfl, same_t s5 hr1, rfl, _, _, rfl, _, _, rfl, rfl, rfl, _, rfl, _, .str c.1, rfl, h1.mono s5, hm2.1, hm2.2, fun H6 e6 => k _ _ e6 ⟨_, hm, rfl⟩⟩
    · intro H3 acc s3 hacc hla hra
      have ea : acc = ((headD cols).map cellS).map V.str := by
        rw [List.map_map]; exact map_of (by omega) hra
      have hcell : ∀ ds : List PyData, (∀ d ∈ ds, smallD d) → ∀ z ∈ ds.map cellS, z.length ≤ 1010 := fun ds h z hz => by
        obtain ⟨d, hd, rfl⟩ := List.mem_map.mp hz
        exact cell_len (h d hd)
      refine ⟨_, D, (headD cols).map cellS, rfl, rfl, .inl (SqL.of (by rw [hacc, ea])), join_small (m := 12) (hcell _ fun d h => (hhs d h).2) (by decide +kernel) (by rw [List.length_map, hdl]; exact hw.2) (by decide), by show 1 ≤ sizeLine; decide, fun fo hfo => ?_⟩
      have e3 := s3.trans (same_new hfo (o := .lst [.str (lineS (headD cols))]))
      have hb3 := same_t e3 hb2
      have hbl3 := DaL.mono e3 hbl2
      refine ⟨_, rfl, _, rfl, b2, rfl, ⟨_, hb3⟩, fun D2 hD2 => lc_ok (walk_tup (K := K) (xs := ys)) (fun i y _ => ∃ ds, ls[i]? = some ds ∧ y = .str (lineS ds)) hD2 (by rw [hyl, hrl]; exact Nat.lt_of_le_of_lt hls8 (by decide)) (fun H5 e => same_t e hb3) (fun _ _ _ _ _ _ h => h) (fun _ _ _ _ h => by rw [h.1]; exact Same.refl _) ?_ ?_⟩
      · rintro i x H5 H' hi s5 ⟨rfl, hx⟩ Q' k
        obtain ⟨d, hd1, hd3⟩ := DaL.get hbl3 hx
        rw [rowsD, List.getElem?_map, Option.map_eq_some_iff] at hd1
        obtain ⟨ds, hds, rfl⟩ := hd1
        have hk2 := hok ds (List.mem_of_getElem? hds)
        have hl12 := hrow ds (List.mem_of_getElem? hds)
        cases hd3 with
        | @tup r zs _ hr1 hrl2 =>
          have hzl := DaL.length hrl2
          have hr5 := same_t s5 hr1
          refine ⟨rfl, ⟨_, rfl⟩, _, rfl, r, rfl, ⟨_, hr5⟩, fun D3 hD3 => lc_ok (walk_tup (K := K) (xs := zs)) (fun i y _ => ∃ d, ds[i]? = some d ∧ y = .str (cellS d)) hD3 (by rw [hzl]; exact Nat.lt_of_le_of_lt hl12 (by decide)) (fun H6 e => same_t e hr5) (fun _ _ _ _ _ _ h => h) (fun _ _ _ _ h => by rw [h.1]; exact Same.refl _) ?_ ?_⟩
          · rintro j z H6 H7 hj s6 ⟨rfl, hz⟩ Q2 k2
            obtain ⟨d, hd1, hd4⟩ := DaL.get hrl2 hz
            have hm := hk2.2 d (List.mem_of_getElem? hd1)
            exact ⟨rfl, _, rfl, z, d, rfl, hd4.mono (s5.trans s6), hm.1, hm.2, fun H8 e8 => k2 _ _ e8 ⟨d, hd1, rfl⟩⟩
          · intro H6 acc2 s6 hacc2 hla2 hra2
            have ea2 : acc2 = (ds.map cellS).map V.str := by
              rw [List.map_map]; exact map_of (by omega) hra2
            exact ⟨_, D3, ds.map cellS, rfl, rfl, .inl (SqL.of (by rw [hacc2, ea2])), join_small (m := 12) (hcell _ fun d h => (hk2.2 d h).2) (by decide +kernel) (by rw [List.length_map]; exact hl12) (by decide), k _ _ s6 ⟨ds, hds, rfl⟩⟩
      · intro H4 acc2 s4 hacc2 hla2 hra2
        have ea2 : acc2 = (ls.map lineS).map V.str := by
          rw [List.map_map]; exact map_of (by omega) hra2
        refine ⟨fo, D2, _, _, rfl, rfl, s4 _ _ upd_same, by rw [hacc2, ea2], Nat.le_trans (show 1 + ((ls.map lineS).map V.str).length ≤ 9 by rw [List.length_map, List.length_map]; omega) (by decide), fun pf hpf => ?_⟩
        have e4 := (e3.trans s4).trans (same_new hpf (o := .lst ([V.str (lineS (headD cols))] ++ (ls.map lineS).map V.str)))
        refine ⟨_, rfl, _, rfl, fun x dx nx ndx ne => ⟨x, dx, _, _, cols, rowsD ls, rfl, upd_same, ?_, ?_, hw.1, by rw [hrl]; omega, fun d hd => ?_, fun H5 keep hx5 => ⟨rfl, ?_⟩⟩⟩
        · have em : Same _ (upd (upd _ dx (.own x)) x (.ins C dx [])) := make_same nx ndx (fun b o _ h => h)
          exact .tup (same_t (e4.trans em) hb) (DaL.mono (e4.trans em) hbl)
        · have em : Same _ (upd (upd _ dx (.own x)) x (.ins C dx [])) := make_same nx ndx (fun b o _ h => h)
          exact .tup (same_t (e4.trans em) hb2) (DaL.mono (e4.trans em) hbl2)
        · obtain ⟨ds, hds, rfl⟩ := List.mem_map.mp hd
          exact (hok ds hds).1
        · have e5 := e4.trans (make_same nx ndx keep)
          have hf5 := make_same nx ndx keep _ _ (upd_same (a := pf))
          have hnt : (frF (.ref b) (.ref b2)).lookup ("table" : Str) = none := frF_no _ _ (by decide +kernel) (by decide +kernel)
          have hs5 : Da K H5 (.ref b) (.tuple (colsD cols)) := .tup (same_t e5 hb) (DaL.mono e5 hbl)
          have hr5 : Da K H5 (.ref b2) (.tuple (rowsD ls)) := .tup (same_t e5 hb2) (DaL.mono e5 hbl2)
          have hlr : ∀ ds ∈ ls, ds.length ≤ 100 ∧ ∀ d ∈ ds, scalD d = true ∧ smallD d := fun ds h => ⟨Nat.le_trans (hrow ds h) (by decide), (hok ds h).2⟩
          refine ⟨_, rfl, x, dx, _, rfl, hx5, hnt, x, dx, _, _, cols, ls, rfl, hx5, hs5, hr5, Nat.le_trans hw.2 (by decide), by omega, hcn, hlr, fun H6 e6 => ?_⟩
          refine ⟨_, rfl, x, dx, _, rfl, e6 _ _ hx5, hnt, x, dx, _, _, cols, ls, rfl, e6 _ _ hx5, hs5.mono e6, hr5.mono e6, Nat.le_trans hw.2 (by decide), by omega, hcn, hlr, fun H7 e7 => ?_⟩
          refine ⟨by show 2 ≤ sizeLine; decide, fun t1 ht1 => ?_⟩
          have e8 := (e6.trans e7).trans (same_new ht1 (o := .lst [.str (tableS cols ls), .str (tableS cols ls)]))
          have hlines : ∀ z ∈ lineS (headD cols) :: ls.map lineS, z.length ≤ 103000 ∧ PyData.strOk z = true := fun z hz => by
            rcases List.mem_cons.mp hz with rfl | hz
            · exact ⟨line_len (fun d h => (hhs d h).2) (by rw [hdl]; exact Nat.le_trans hw.2 (by decide)), ok_line fun d h => (hhs d h).2⟩
            · obtain ⟨ds, h, rfl⟩ := List.mem_map.mp hz
              exact ⟨line_len (fun d h2 => ((hok ds h).2 d h2).2) (hlr ds h).1, ok_line fun d h2 => ((hok ds h).2 d h2).2⟩
          refine ⟨⟨_, rfl⟩, _, rfl, _, pf, lineS (headD cols) :: ls.map lineS, rfl, rfl, .inl (SqL.of (e8 _ _ hf5)), join_small (m := 9) (fun z hz => (hlines z hz).1) (by decide +kernel) (by simp; omega) (by decide), by show 1 ≤ sizeLine; decide, fun t2 ht2 => ?_⟩
          refine ⟨t2, 2, _, rfl, rfl, upd_same, by decide, by decide, by show 2 ≤ sizeLine; decide, fun t3 ht3 => ?_⟩
          have ht12 : t1 ≠ t2 := fun q => by rw [← q, upd_same] at ht2; cases ht2
          have ht13 : t1 ≠ t3 := fun q => by rw [← q, upd_ne ht12, upd_same] at ht3; cases ht3
          have hok2 : ∀ z ∈ [tableS cols ls, tableS cols ls], PyData.strOk z = true := fun z hz => by
            have hz2 : z = tableS cols ls := by simpa using hz
            rw [hz2]; exact ok_join (by decide +kernel) fun y hy => (hlines y hy).2
          refine ⟨.list ([tableS cols ls, tableS cols ls].map PyData.str), .list ([tableS cols ls, tableS cols ls].map PyData.str), dp_strs (SqL.of (by rw [upd_ne ht13, upd_ne ht12, upd_same]; rfl)), dp_strs (SqL.of (by rw [upd_same]; rfl)), shaped_strs hok2, shaped_strs hok2, _, rfl, ?_⟩
          rw [SeqAt.eqv_refl _ (SeqAt.canLay_of_shaped (shaped_strs hok2))]
          refine iteF ?_
          exact ⟨⟨_, _, _, _, _, _, _, _, _, rfl⟩, ((e02.trans e5).trans e8).trans ((same_new ht2).trans (same_new ht3))⟩
end
end Z
set_option Elab.async false
set_option linter.all false
set_option autoImplicit false
set_option maxRecDepth 100000
set_option maxHeartbeats 4000000
namespace Z
open PySem PySem.Spec PyProof.Rows L2
def cols0 : List (Str × Str) := [("city", "text"), ("age", "int")]
def ls0 : List (List PyData) := [[.str "Rome", .int 30], [.none, .int 7], [.str (Txt.mul "x" 12), .none], [.str "", .int (10 ^ (12 : Int).toNat)]]
def due0 : List Str := ["city       age       ", "Rome               30", "-                   7", "xxxxxxxxxxxx -         ", Txt.mul " " 10 ++ " 1000000000000"]
theorem ls0_ok : (ls0.all fun ds => rowD cols0 (.tuple ds) && ds.all fun d => scalD d && smallB d) = true := by decide +kernel
theorem cols0_ok : colsOk cols0 := ⟨by decide, by decide, fun c hc => by
  have h : (cols0.all fun c => nameS c.1 && kindS c.2) = true := by decide +kernel
  have := List.all_eq_true.mp h c hc
  rwa [Bool.and_eq_true] at this, by decide +kernel⟩
theorem ls0_row {ds : List PyData} (h : ds ∈ ls0) : rowOk cols0 ds := by
  have h1 := List.all_eq_true.mp ls0_ok ds h
  rw [Bool.and_eq_true] at h1
  refine ⟨h1.1, fun d hd => ?_⟩
  have h2 := List.all_eq_true.mp h1.2 d hd
  rw [Bool.and_eq_true] at h2
  exact ⟨h2.1, small_of h2.2⟩
theorem split0 : PyData.eqv (.list ((Txt.split (tableS cols0 ls0) "\n").map PyData.str)) (.list (due0.map PyData.str)) = true := by decide +kernel
theorem split0_ok : (Txt.split (tableS cols0 ls0) "\n").all PyData.strOk = true ∧ (tableS cols0 ls0).length + 2 ≤ 1000 ∧ due0.all PyData.strOk = true := by decide +kernel
def spLaw (K : PySem.W.Frag) : Sp := fun vs H Q _ => ∃ (a : Addr) (ns : List Int), vs = [.ref a] ∧ SqL K H a (ns.map V.int) ∧ ns.length ≤ 63 ∧ ∀ H', Q (.bl true) H'
section
variable {P : Program} {w : World} {K : PySem.W.Frag} {mg : Str → Option Value} {base : Heap} {C : Addr}
theorem ok_law {f : Addr} {fd : FuncData} (F : FnP K "law" (top 58) f fd) (T : Txt K mg) (TF : FrT K C) (F__law_cell : Kn P w K mg base CX0 "_law_cell" 1 ["script", "k"] [] (spLCell K)) (F__law_pool : Kn P w K mg base CX0 "_law_pool" 1 ["cell"] [] spPool)
    (F__law_right : Kn P w K mg base CX0 "_law_right" 8 ["pool"] [] spRight) (M_Frame : MakeK P w K mg base "Frame" C 5 ["self", "schema", "rows"] (spInit K C)) (Q_table : MethK P w K mg base C "table" 5 ["self"] (spTable K C)) : FnOk P w K mg base CX0 9 f fd ["script"] (spLaw K) := by
  have C_Frame := TF.cl
  have sc_ : FnScope ["script", "sheet", "due", "k"] ["script"] (defScope (top 58)) := ⟨rfl, rfl, rfl, by decide +kernel, rfl, by decide +kernel, by decide +kernel⟩
  refine F.ok sc_ (fun vs H Q E h => ?_) (fun cdv A outer s H vs Q E hr h => ?_)
  · obtain ⟨a, ns, rfl, _⟩ := h; rfl
  · obtain ⟨a, ns, rfl, hS, hn, q⟩ := h
    refine ⟨_, PSs.nox (pss_cons (ps_set (i := 1) sc_.nd rfl (by first | exact Or.inl rfl | exact Or.inr rfl) (pe_makeK M_Frame hr (by decide) (pa_cons (pe_tup (pa_cons (pe_tup (pa_cons pe_str (pa_cons pe_str pa_nil))) (pa_cons (pe_tup (pa_cons pe_str (pa_cons pe_str pa_nil))) pa_nil))) (pa_cons (pe_tup (pa_cons (pe_tup (pa_cons pe_str (pa_cons pe_int pa_nil))) (pa_cons (pe_tup (pa_cons pe_non (pa_cons pe_int pa_nil))) (pa_cons (pe_tup (pa_cons (pe_op op_mul_str pe_str pe_int) (pa_cons pe_non pa_nil))) (pa_cons (pe_tup (pa_cons pe_str (pa_cons (pe_op op_pow pe_int pe_int) pa_nil))) pa_nil))))) pa_nil))))
      (pss_cons (ps_set (i := 2) sc_.nd rfl (by first | exact Or.inl rfl | exact Or.inr rfl) (pe_lst (pa_cons pe_str (pa_cons pe_str (pa_cons pe_str (pa_cons pe_str pa_nil))))))
      (pss_cons (ps_if (pt_cmpR (k_neD (K := K) hr.units) (pe_split (pe_methK0 (K := K) (pv 1) C_Frame Q_table hr (by decide)) pe_str) (pe_op op_cat (pv 2) (pe_lst (pa_cons (pe_op op_add_str (pe_op op_mul_str pe_str pe_int) pe_str) pa_nil))) (nomark _)) (pss_one (ps_ret pe_bl)) pss_nil)
      (pss_one (ps_ret (pe_callB (k_all (K := K) rfl) (by rfl) T.z_all (by decide +kernel) (pa_cons (pe_lc (own := [("k", 3)]) (g := gName 3) (by rfl) sc_.nd (pi_range1 (by rfl) T.z_range (pa_cons (pe_callB (call_max2 rfl) (by rfl) T.z_max (by decide +kernel) (pa_cons pe_int (pa_cons (pe_callB (call_min2 rfl) (by rfl) T.z_min (by decide +kernel) (pa_cons pe_int (pa_cons (pe_callB (k_len (K := K)) (by rfl) T.z_len (by decide +kernel) (pa_cons (pv 0) pa_nil)) pa_nil))) pa_nil))) pa_nil)) (blkOk_by (N := ["script", "sheet", "due", "k"]) (sc := defScope (top 58)) (by decide +kernel)) (fun _ _ _ _ _ => (pg_name (i := 3) sc_.nd rfl (by first | exact Or.inl rfl | exact Or.inr rfl))) (fun _ _ _ _ _ => pts_nil) (fun _ _ _ _ _ => (pe_own F__law_right hr (by first | decide | omega | (simp only [Nat.add_eq]; omega)) pass0 (pa_cons (pe_own F__law_pool hr (by first | decide | omega | (simp only [Nat.add_eq]; omega)) pass0 (pa_cons (pe_own F__law_cell hr (by first | decide | omega | (simp only [Nat.add_eq]; omega)) pass0 (pa_cons (pv 0) (pa_cons (pv 3) pa_nil))) pa_nil)) pa_nil)))) pa_nil))))))), ?_⟩
    have l2 : ∀ n : Nat, n ≤ 1000 → n ≤ sizeLine := fun n h => Nat.le_trans h (by decide)
    refine ⟨l2 2 (by decide), fun p1 h1 => ⟨l2 2 (by decide), fun p2 h2 => ⟨l2 2 (by decide), fun p3 h3 => ?_⟩⟩⟩
    refine ⟨l2 2 (by decide), fun r1 g1 => ⟨l2 2 (by decide), fun r2 g2 => ⟨_, _, rfl, rfl, mul_small (by decide +kernel) (by decide) (by decide), l2 2 (by decide), fun r3 g3 => ⟨_, _, rfl, rfl, ⟨by decide, by decide, by decide⟩, l2 2 (by decide), fun r4 g4 => ⟨l2 4 (by decide), fun r5 g5 => ?_⟩⟩⟩⟩⟩
    have e1 := same_new h1 (o := .tup [.str "city", .str "text"])
    have e2 := same_new h2 (o := .tup [.str "age", .str "int"])
    have e3 := same_new h3 (o := .tup [.ref p1, .ref p2])
    have f1 := same_new g1 (o := .tup [.str "Rome", .int 30])
    have f2 := same_new g2 (o := .tup [.non, .int 7])
    have f3 := same_new g3 (o := .tup [.str (Txt.mul "x" 12), .non])
    have f4 := same_new g4 (o := .tup [.str "", .int (10 ^ (12 : Int).toNat)])
    have f5 := same_new g5 (o := .tup [.ref r1, .ref r2, .ref r3, .ref r4])
    have s5 := f5
    have s4 := f4.trans s5
    have s3 := f3.trans s4
    have s2 := f2.trans s3
    have s1 := f1.trans s2
    have t3 := s1
    have t2 := e3.trans t3
    have t1 := e2.trans t2
    intro x dx nx ndx ne
    have em := make_same (C := C) nx ndx (fun b o _ h => h)
    have es0 : e1.trans t1 = e1.trans t1 := rfl
    have hsz : ∀ z : Str, z.length ≤ 20 → z.length ≤ 1000000 := fun z h => Nat.le_trans h (by decide)
    have hcD : Da K _ (.ref p3) (.tuple (colsD cols0)) := Da.mono em (.tup (SqT.of (t3 _ _ upd_same)) (.cons (.tup (SqT.of (t1 _ _ upd_same)) (.cons (.str _ (hsz _ (by decide +kernel))) (.cons (.str _ (hsz _ (by decide +kernel))) .nil))) (.cons (.tup (SqT.of (t2 _ _ upd_same)) (.cons (.str _ (hsz _ (by decide +kernel))) (.cons (.str _ (hsz _ (by decide +kernel))) .nil))) .nil)))
    have hlD : Da K _ (.ref r5) (.tuple (rowsD ls0)) := Da.mono em (.tup (SqT.of upd_same) (.cons (.tup (SqT.of (s2 _ _ upd_same)) (.cons (.str _ (hsz _ (by decide +kernel))) (.cons (.int _) .nil))) (.cons (.tup (SqT.of (s3 _ _ upd_same)) (.cons .non (.cons (.int _) .nil)))
      (.cons (.tup (SqT.of (s4 _ _ upd_same)) (.cons (.str _ (hsz _ (by decide +kernel))) (.cons .non .nil))) (.cons (.tup (SqT.of (s5 _ _ upd_same)) (.cons (.str _ (hsz _ (by decide +kernel))) (.cons (.int _) .nil))) .nil)))))
    refine ⟨x, dx, _, _, cols0, rowsD ls0, rfl, upd_same, hcD, hlD, cols0_ok, by decide, fun d hd => ?_, fun H1 keep hx => ⟨rfl, ?_⟩⟩
    · obtain ⟨ds, hds, rfl⟩ := List.mem_map.mp hd
      exact (ls0_row hds).1
    · have hnt : (frF (.ref p3) (.ref r5)).lookup ("table" : Str) = none := frF_no _ _ (by decide +kernel) (by decide +kernel)
      have k1 := make_same nx ndx keep
      have cD1 : Da K H1 (.ref p3) (.tuple (colsD cols0)) := Da.mono k1 (.tup (SqT.of (t3 _ _ upd_same)) (.cons (.tup (SqT.of (t1 _ _ upd_same)) (.cons (.str _ (hsz _ (by decide +kernel))) (.cons (.str _ (hsz _ (by decide +kernel))) .nil))) (.cons (.tup (SqT.of (t2 _ _ upd_same)) (.cons (.str _ (hsz _ (by decide +kernel))) (.cons (.str _ (hsz _ (by decide +kernel))) .nil))) .nil)))
      have lD1 : Da K H1 (.ref r5) (.tuple (rowsD ls0)) := Da.mono k1 (.tup (SqT.of upd_same) (.cons (.tup (SqT.of (s2 _ _ upd_same)) (.cons (.str _ (hsz _ (by decide +kernel))) (.cons (.int _) .nil))) (.cons (.tup (SqT.of (s3 _ _ upd_same)) (.cons .non (.cons (.int _) .nil)))
        (.cons (.tup (SqT.of (s4 _ _ upd_same)) (.cons (.str _ (hsz _ (by decide +kernel))) (.cons .non .nil))) (.cons (.tup (SqT.of (s5 _ _ upd_same)) (.cons (.str _ (hsz _ (by decide +kernel))) (.cons (.int _) .nil))) .nil)))))
      have hS1 : SqL K H1 a (ns.map V.int) := Same.seq (((e1.trans t1)).trans k1) hS
      refine ⟨l2 4 (by decide), fun du hdu => ?_⟩
      have k2 := same_new hdu (o := .lst ((due0.take 4).map V.str))
      refine ⟨_, rfl, x, dx, _, rfl, k2 _ _ hx, hnt, x, dx, _, _, cols0, ls0, rfl, k2 _ _ hx, cD1.mono k2, lD1.mono k2, by decide, by decide, fun c hc => (cols0_ok.2.2.1 c hc).1, fun ds hds => ⟨?_, (ls0_row hds).2⟩, fun H2 k3 => ?_⟩
      · have : (ls0.all fun ds => decide (ds.length ≤ 100)) = true := by decide
        exact of_decide_eq_true (List.all_eq_true.mp this ds hds)
      · have hdu2 := k3 _ _ (upd_same (H := H1) (a := du) (o := .lst ((due0.take 4).map V.str)))
        refine ⟨⟨_, rfl⟩, _, _, rfl, rfl, by decide +kernel, l2 _ (split0_ok.2.1), fun sp hsp => ?_⟩
        have k4 := k3.trans (same_new hsp (o := .lst ((Txt.split (tableS cols0 ls0) "\n").map V.str)))
        refine ⟨_, rfl, _, _, rfl, rfl, mul_small (by decide +kernel) (by decide) (by decide), _, _, rfl, rfl, l2 _ (by decide +kernel), l2 1 (by decide), fun l1 hl1 => ?_⟩
        have k5 := k4.trans (same_new hl1 (o := .lst [.str (Txt.mul " " 10 ++ " 1000000000000")]))
        refine ⟨du, l1, _, _, rfl, rfl, k5 _ _ upd_same, upd_same, l2 5 (by decide), fun l3 hl3 => ?_⟩
        have n1 : sp ≠ l1 := fun q => by rw [← q, upd_same] at hl1; cases hl1
        have n2 : sp ≠ l3 := fun q => by rw [← q, upd_ne n1, upd_same] at hl3; cases hl3
        refine ⟨.list ((Txt.split (tableS cols0 ls0) "\n").map PyData.str), .list (due0.map PyData.str), dp_strs (SqL.of (by rw [upd_ne n2, upd_ne n1, upd_same])), dp_strs (SqL.of (by rw [upd_same]; rfl)), shaped_strs (fun z hz => List.all_eq_true.mp split0_ok.1 z hz), shaped_strs (fun z hz => List.all_eq_true.mp split0_ok.2.2 z hz), _, rfl, ?_⟩
        rw [split0]
        refine iteF ?_
        have k6 := (k2.trans k5).trans (same_new hl3 (o := .lst ((due0.take 4).map V.str ++ [.str (Txt.mul " " 10 ++ " 1000000000000")])))
        have hS2 := Same.seq k6 hS1
        refine ⟨_, rfl, a, _, rfl, .inl hS2, _, _, rfl, _, _, rfl, _, rfl, ?_, ?_, fun D hD => lc_ok walk_range (fun i y _ => y = .bl true) hD ?_ (fun _ _ => trivial) (fun _ _ _ _ _ _ h => h) (fun _ _ _ _ h => by rw [h.1]; exact Same.refl _) ?_ ?_⟩
        · split <;> split <;> omega
        · split <;> split <;> omega
        · refine Nat.lt_of_le_of_lt (m := 5) ?_ (by decide)
          split <;> split <;> omega
        · rintro i y H3 H4 hi s3 ⟨rfl, rfl⟩ Q' k
          have hi5 : i < 1000 := by
            refine Nat.lt_of_lt_of_le hi ?_
            split <;> split <;> omega
          exact ⟨rfl, _, rfl, _, rfl, a, ns, _, rfl, Same.seq s3 hS2, by omega, by omega, fun c H5 e5 => ⟨c, rfl, fun p H6 hp e6 hp6 => ⟨p, rfl, hp6, fun H7 e7 => k _ _ ((e5.trans e6).trans e7) rfl⟩⟩⟩
        · intro H3 acc s3 hacc hla hra
          have e : acc = (List.replicate acc.length true).map V.bl := by
            apply List.ext_getElem?
            intro i
            by_cases hi : i < acc.length
            · have h1 := hra i acc[i] (List.getElem?_eq_getElem hi)
              rw [List.getElem?_eq_getElem hi, h1, List.getElem?_map, List.getElem?_replicate, if_pos hi]; rfl
            · rw [List.getElem?_eq_none (by omega), List.getElem?_eq_none (by rw [List.length_map, List.length_replicate]; omega)]
          refine ⟨_, List.replicate acc.length true, rfl, SqL.of (by rw [hacc, ← e]), ?_⟩
          have h2 : (List.replicate acc.length true).all id = true := by simp
          rw [h2]
          exact q _
end
end Z
set_option Elab.async false
set_option linter.all false
set_option autoImplicit false
set_option maxRecDepth 100000
set_option maxHeartbeats 4000000
/-! the head's facts: defs at any address that a path of one's own tells, and further facts as one Bool -/
namespace ZH
open PySem PySem.Spec PyProof.Rows L2
structure DefA where
  at_ : PySem.W.Frag → Addr
  name : Str
  qual : Str
  params : Arguments
  body : List Stmt
  scope : Scope
  dfl : List He.Dv := []
def fnA (K : PySem.W.Frag) (a : Addr) : He.FnW := match K.lookup a with
  | some o => (match o.data with
    | .func fd => some (fd.name, fd.qualname, fd.params, fd.body, fd.scope, fd.globals, fd.closure, fd.builtins)
    | _ => none)
  | none => none
def DefA.val (d : DefA) : He.FnW := some (d.name, d.qual, d.params, .stmts d.body, d.scope, mainGlobals, [], builtinsNs)
def DefA.dvs (K : PySem.W.Frag) (d : DefA) : List V := d.dfl.map (He.Dv.v K)
def DefA.ok (K : PySem.W.Frag) (d : DefA) : Bool := PySem.W.keepIn K (.ref (d.at_ K)) && (match K.lookup (d.at_ K) with
  | some o => (match o.data with
    | .func fd => PySem.W.codeIn K fd.code d.qual && He.dflB K fd.defaults (d.dvs K)
    | _ => false)
  | none => false)
theorem DefA.funD {K : PySem.W.Frag} {d : DefA} (e : fnA K (d.at_ K) = d.val) (c : d.ok K = true) : ∃ fd, FunD K d.name d.qual d.params d.body d.scope (d.dvs K) [] (d.at_ K) fd := by
  unfold DefA.ok at c
  rw [Bool.and_eq_true] at c
  obtain ⟨kp, c2⟩ := c
  unfold fnA at e
  cases q : K.lookup (d.at_ K) with
  | none => rw [q] at c2; cases c2
  | some o =>
    rw [q] at c2 e
    obtain ⟨oc, od, dt, osl⟩ := o
    simp only at c2 e
    cases dt with
    | func fd =>
      simp only at c2 e
      rw [Bool.and_eq_true] at c2
      obtain ⟨n1, n2, n3, n4, n5, n6, n7, n8, n9, n10, n11, n12, n13, n14, n15⟩ := fd
      simp only [DefA.val, Option.some.injEq, Prod.mk.injEq] at e
      obtain ⟨a1, a2, a3, a4, a5, a6, a7, a8⟩ := e
      subst a1 a2 a3 a4 a5 a6 a7 a8
      exact ⟨_, ⟨oc, od, n8, n9, n10, n11, n12, n13, n14, osl, rfl, q, c2.1, He.dflB_ok c2.2, .inl rfl⟩, kp⟩
    | _ => simp only at c2; cases c2
def obsA (fa : List He.Fa) (ex : PySem.W.Frag → Bool) (fn : List DefA) (K : PySem.W.Frag) : He.AlD := ((fa.all fun f => f.ok K) && (fn.all (fun d => d.ok K) && ex K), fn.map fun d => fnA K (d.at_ K))
def valA (fn : List DefA) : He.AlD := (true, fn.map DefA.val)
def Says (fa : List He.Fa) (ex : PySem.W.Frag → Bool) (fn : List DefA) (K : PySem.W.Frag) : Prop := obsA fa ex fn K = valA fn
def obsG (n : Nat) (fa : List He.Fa) (ex : PySem.W.Frag → Bool) (fn : List DefA) (g : Addr → Option Obj) : He.AlD := obsA fa ex fn (He.frG g (He.asD g n))
def hook (n : Nat) (fa : List He.Fa) (ex : PySem.W.Frag → Bool) (fn : List DefA) : PySem.W.Hook where
  α := He.AlD
  obs := fun s => obsG n fa ex fn s.heap.get?
  val := fun _ => valA fn
  says := fun _ h => ∃ K : PySem.W.Frag, K.In h ∧ Says fa ex fn K
  of := fun _ _ e => ⟨_, He.frG_in, e⟩
  keeps := fun _ _ _ ⟨K, k1, k2⟩ k => ⟨K, PySem.W.Frag.In.keeps k1 k, k2⟩
theorem obs_eq {n : Nat} {fa : List He.Fa} {ex : PySem.W.Frag → Bool} {fn : List DefA} {g : Addr → Option Obj} {s : Shared} (h : ∀ a, g a = s.heap.get? a) : obsG n fa ex fn g = (hook n fa ex fn).obs s := by
  rw [show g = s.heap.get? from funext h]; rfl
section
variable {fa : List He.Fa} {ex : PySem.W.Frag → Bool} {fn : List DefA} {K : PySem.W.Frag}
theorem Says.fact (c : Says fa ex fn K) (i : Nat) {f : He.Fa} (h : fa[i]? = some f := by rfl) : f.ok K = true := by
  have q := congrArg (fun z : He.AlD => z.1) c
  have q1 : ((fa.all fun f => f.ok K) && (fn.all (fun d => d.ok K) && ex K)) = true := q
  rw [Bool.and_eq_true] at q1
  exact List.all_eq_true.mp q1.1 f (List.mem_of_getElem? h)
theorem Says.more (c : Says fa ex fn K) : ex K = true := by
  have q := congrArg (fun z : He.AlD => z.1) c
  have q1 : ((fa.all fun f => f.ok K) && (fn.all (fun d => d.ok K) && ex K)) = true := q
  rw [Bool.and_eq_true, Bool.and_eq_true] at q1
  exact q1.2.2
theorem Says.def_ (c : Says fa ex fn K) (i : Nat) {d : DefA} (h : fn[i]? = some d := by rfl) : ∃ fd, FunD K d.name d.qual d.params d.body d.scope (d.dvs K) [] (d.at_ K) fd := by
  have q := congrArg (fun z : He.AlD => z.1) c
  have q1 : ((fa.all fun f => f.ok K) && (fn.all (fun d => d.ok K) && ex K)) = true := q
  rw [Bool.and_eq_true, Bool.and_eq_true] at q1
  have q2 : (fn.map fun d => fnA K (d.at_ K)) = fn.map DefA.val := congrArg (fun z : He.AlD => z.2) c
  have q3 : (fn.map fun d => fnA K (d.at_ K))[i]? = (fn.map DefA.val)[i]? := by rw [q2]
  rw [List.getElem?_map, List.getElem?_map, h] at q3
  exact DefA.funD (Option.some.inj q3) (List.all_eq_true.mp q1.2.1 d (List.mem_of_getElem? h))
end
end ZH
namespace ZH
open PySem PySem.Spec PyProof.Rows L2
/-- the getter of a property of a class -/
def getA (C f : Str) (K : PySem.W.Frag) : Addr := match PySem.W.recIn K (He.ma K (He.ga K C) f) "property" with
  | some (.ref g :: _) => g
  | _ => 0
def propB (C f : Str) (K : PySem.W.Frag) : Bool :=
  He.eqO (PySem.W.findIn K (.ref (He.ga K C)) f) (some (some (.ref (He.ma K (He.ga K C) f)))) && (He.eqO (PySem.W.specialIn K (.ref (He.ma K (He.ga K C) f)) "__get__") (some (some (.builtin "property.__get__"))) &&
  (decide (PySem.W.takesIn K (.ref (He.ma K (He.ga K C) f)) = some true) && (match PySem.W.recIn K (He.ma K (He.ga K C) f) "property" with
    | some (.ref _ :: _) => true
    | _ => false)))
theorem prop_ok {C f : Str} {K : PySem.W.Frag} (h : propB C f K = true) : PropOf K (He.ga K C) f (He.ma K (He.ga K C) f) (getA C f K) := by
  unfold propB at h
  rw [Bool.and_eq_true, Bool.and_eq_true, Bool.and_eq_true] at h
  obtain ⟨h1, h2, h3, h4⟩ := h
  refine ⟨He.eqO_ok h1, He.eqO_ok h2, of_decide_eq_true h3, ?_⟩
  unfold getA
  split at h4
  · rename_i g r e
    rw [e]; exact ⟨r, rfl⟩
  · cases h4
end ZH
set_option Elab.async false
set_option linter.all false
set_option autoImplicit false
set_option maxRecDepth 100000
set_option maxHeartbeats 0
namespace Z
open PySem PySem.Spec PyProof.Rows L2
abbrev R : PySem.W.OpenRow := PySem.W.OpenLaw.row PySem.Challenge.rw_labelframes_k05_tables_of_frames
def fa : List He.Fa := [.glo "is_whole", .glo "is_name", .glo "is_kind", .glo "is_text", .glo "is_value", .glo "is_pair", .glo "is_column", .glo "valid_columns", .glo "check_schema", .glo "is_row", .glo "check_rows", .glo "truth_text", .glo "table_cell", .glo "table_line", .glo "_law_cell", .glo "_law_pool", .glo "_law_draw", .glo "_law_calls", .glo "_law_worth", .glo "_law_heads", .glo "_law_lines", .glo "_law_wide", .glo "_law_padded", .glo "_law_right", .glo "law", .free "isinstance", .free "int", .free "str", .free "bool", .free "tuple", .free "len", .free "all", .free "zip", .free "set", .free "enumerate", .free "range", .free "abs", .free "divmod", .free "max", .free "min", .glo "Frame", .int "MOST_LETTERS" 8, .int "CELL_WIDTH" 10, .glo "KINDS", .cls "Frame", .noat "Frame" "_schema", .noat "Frame" "_rows", .meth "Frame" "table", .mkr "Frame", .glo "names_of"]
def ex (K : PySem.W.Frag) : Bool := ZH.propB "Frame" "names" K && He.tupB K "KINDS" [.str "int", .str "text", .str "bool"]
def fn : List ZH.DefA := [
  ⟨fun K => He.ga K "is_whole", "is_whole", "is_whole", defArgs (top 15), defBody (top 15), defScope (top 15), []⟩,
  ⟨fun K => He.ga K "is_name", "is_name", "is_name", defArgs (top 18), defBody (top 18), defScope (top 18), []⟩,
  ⟨fun K => He.ga K "is_kind", "is_kind", "is_kind", defArgs (top 19), defBody (top 19), defScope (top 19), []⟩,
  ⟨fun K => He.ga K "is_text", "is_text", "is_text", defArgs (top 20), defBody (top 20), defScope (top 20), []⟩,
  ⟨fun K => He.ga K "is_value", "is_value", "is_value", defArgs (top 21), defBody (top 21), defScope (top 21), []⟩,
  ⟨fun K => He.ga K "is_pair", "is_pair", "is_pair", defArgs (top 22), defBody (top 22), defScope (top 22), []⟩,
  ⟨fun K => He.ga K "is_column", "is_column", "is_column", defArgs (top 23), defBody (top 23), defScope (top 23), []⟩,
  ⟨fun K => He.ga K "valid_columns", "valid_columns", "valid_columns", defArgs (top 24), defBody (top 24), defScope (top 24), []⟩,
  ⟨fun K => He.ga K "check_schema", "check_schema", "check_schema", defArgs (top 26), defBody (top 26), defScope (top 26), []⟩,
  ⟨fun K => He.ga K "is_row", "is_row", "is_row", defArgs (top 28), defBody (top 28), defScope (top 28), []⟩,
  ⟨fun K => He.ga K "check_rows", "check_rows", "check_rows", defArgs (top 29), defBody (top 29), defScope (top 29), []⟩,
  ⟨fun K => He.ga K "truth_text", "truth_text", "truth_text", defArgs (top 32), defBody (top 32), defScope (top 32), []⟩,
  ⟨fun K => He.ga K "table_cell", "table_cell", "table_cell", defArgs (top 37), defBody (top 37), defScope (top 37), []⟩,
  ⟨fun K => He.ga K "table_line", "table_line", "table_line", defArgs (top 38), defBody (top 38), defScope (top 38), []⟩,
  ⟨fun K => He.ga K "_law_cell", "_law_cell", "_law_cell", defArgs (top 48), defBody (top 48), defScope (top 48), []⟩,
  ⟨fun K => He.ga K "_law_pool", "_law_pool", "_law_pool", defArgs (top 49), defBody (top 49), defScope (top 49), []⟩,
  ⟨fun K => He.ga K "_law_draw", "_law_draw", "_law_draw", defArgs (top 50), defBody (top 50), defScope (top 50), []⟩,
  ⟨fun K => He.ga K "_law_calls", "_law_calls", "_law_calls", defArgs (top 51), defBody (top 51), defScope (top 51), []⟩,
  ⟨fun K => He.ga K "_law_worth", "_law_worth", "_law_worth", defArgs (top 52), defBody (top 52), defScope (top 52), []⟩,
  ⟨fun K => He.ga K "_law_heads", "_law_heads", "_law_heads", defArgs (top 53), defBody (top 53), defScope (top 53), []⟩,
  ⟨fun K => He.ga K "_law_lines", "_law_lines", "_law_lines", defArgs (top 54), defBody (top 54), defScope (top 54), []⟩,
  ⟨fun K => He.ga K "_law_wide", "_law_wide", "_law_wide", defArgs (top 55), defBody (top 55), defScope (top 55), []⟩,
  ⟨fun K => He.ga K "_law_padded", "_law_padded", "_law_padded", defArgs (top 56), defBody (top 56), defScope (top 56), []⟩,
  ⟨fun K => He.ga K "_law_right", "_law_right", "_law_right", defArgs (top 57), defBody (top 57), defScope (top 57), []⟩,
  ⟨fun K => He.ga K "law", "law", "law", defArgs (top 58), defBody (top 58), defScope (top 58), []⟩,
  ⟨fun K => He.ma K (He.ga K "Frame") "__init__", "__init__", "Frame.__init__", defArgs (inClass (top 46) 0), defBody (inClass (top 46) 0), defScope (inClass (top 46) 0), [.adr (He.dflAt ("Frame", some "__init__") 0)]⟩,
  ⟨fun K => He.ma K (He.ga K "Frame") "table", "table", "Frame.table", defArgs (inClass (top 46) 6), defBody (inClass (top 46) 6), defScope (inClass (top 46) 6), []⟩,
  ⟨ZH.getA "Frame" "names", "names", "Frame.names", defArgs (inClass (top 46) 4), defBody (inClass (top 46) 4), defScope (inClass (top 46) 4), []⟩,
  ⟨fun K => He.ga K "names_of", "names_of", "names_of", defArgs (top 27), defBody (top 27), defScope (top 27), []⟩]
abbrev hk : PySem.W.Hook := ZH.hook 6 fa ex fn
def ob (s : PySem.W.SharedT) : He.AlD := ZH.obsG 6 fa ex fn (HandSHeadRun.getT s)
theorem ob_eq (s : PySem.W.SharedT) : ob s = hk.obs s.abs := ZH.obs_eq (HandSHeadRun.getT_eq s)
def loose : List PySem.Str := (["_wall", "FrameError", "InvalidSchema", "InvalidRows", "InvalidNumber", "InvalidText", "FindError", "UnknownColumn", "MOST_DIGITS", "Reader", "KINDS", "MOST_LETTERS"] : List PySem.Str) ++ (["is_whole", "is_count", "is_index", "is_name", "is_kind", "is_text", "is_value", "is_pair", "is_column", "valid_columns", "is_schema", "check_schema"] : List PySem.Str) ++ (["names_of", "is_row", "check_rows", "CELL_WIDTH", "truth_text", "value_text", "cell_text", "header_line", "frame_lines", "table_cell", "table_line", "read_frame"] : List PySem.Str) ++ (["take_schema", "take_column", "take_row", "take_cell", "take_truth", "Frame", "_law_cell", "_law_pool", "_law_draw", "_law_calls", "_law_worth", "_law_heads"] : List PySem.Str) ++ (["_law_lines", "_law_wide", "_law_padded", "_law_right"] : List PySem.Str)
theorem run (w : World) : HandSHeadRun.RunEq R (PySem.W.view R.prog [58]) hk ob 8000 loose w := by
  intro os
  kernel_rfl
end Z
set_option Elab.async false
set_option linter.all false
set_option autoImplicit false
set_option maxRecDepth 100000
set_option maxHeartbeats 4000000
namespace Z
open PySem PySem.Spec PyProof.Rows L2
section
variable {P : Program} {w : World} {K : PySem.W.Frag} {h : Heap} {mg : Str → Option Value}
theorem def0 (X : K.In h) (G : h.Ns mainGlobals mg) (c : ZH.Says fa ex fn K) {x : Str} {st : Stmt} (i j : Nat) (hi : fa[i]? = some (.glo x)) (hj : fn[j]? = some ⟨fun K => He.ga K x, x, x, defArgs st, defBody st, defScope st, []⟩) : Def0 K mg x st := by
  obtain ⟨fd, F⟩ := c.def_ j hj
  exact ⟨He.ga K x, fd, F, He.glo_ok X G (c.fact i hi)⟩
theorem txt (X : K.In h) (G : h.Ns mainGlobals mg) (c : ZH.Says fa ex fn K) : Txt K mg where
  z_isinstance := He.free_ok X G (c.fact 25 rfl)
  z_int := He.free_ok X G (c.fact 26 rfl)
  z_str := He.free_ok X G (c.fact 27 rfl)
  z_bool := He.free_ok X G (c.fact 28 rfl)
  z_tuple := He.free_ok X G (c.fact 29 rfl)
  z_len := He.free_ok X G (c.fact 30 rfl)
  z_all := He.free_ok X G (c.fact 31 rfl)
  z_zip := He.free_ok X G (c.fact 32 rfl)
  z_set := He.free_ok X G (c.fact 33 rfl)
  z_enumerate := He.free_ok X G (c.fact 34 rfl)
  z_range := He.free_ok X G (c.fact 35 rfl)
  z_abs := He.free_ok X G (c.fact 36 rfl)
  z_divmod := He.free_ok X G (c.fact 37 rfl)
  z_max := He.free_ok X G (c.fact 38 rfl)
  z_min := He.free_ok X G (c.fact 39 rfl)
  c_MOST_LETTERS := by
    obtain ⟨t, e⟩ := He.int_ok X G (c.fact 41 rfl)
    exact ⟨_, e, t, rfl⟩
  c_CELL_WIDTH := by
    obtain ⟨t, e⟩ := He.int_ok X G (c.fact 42 rfl)
    exact ⟨_, e, t, rfl⟩
  c_KINDS := ⟨_, He.glo_ok X G (c.fact 43 rfl), fun H => He.tupB_ok (by have q := c.more; unfold ex at q; rw [Bool.and_eq_true] at q; exact q.2) H⟩
theorem facts (X : K.In h) (G : h.Ns mainGlobals mg) {f : Addr} (hfa : mg ("law" : Str) = some (.ref f)) (c : ZH.Says fa ex fn K) :
    ∃ fd : FuncData, (∀ (s : Shared) (v : Value), BindsTo s fd ⟨[v], []⟩ [("script", v)]) ∧ ∀ base : Heap, K.In base → base.Ns mainGlobals mg → FnOk P w K mg base CX0 9 f fd ["script"] (spLaw K) := by
  have T := txt X G c
  have TF : FrT K (He.ga K "Frame") := ⟨He.cls_ok (c.fact 44 rfl), He.noat_ok (c.fact 45 rfl), He.noat_ok (c.fact 46 rfl)⟩
  have gF := He.glo_ok X G (c.fact 40 rfl)
  have M := He.mkr_ok (c.fact 48 rfl)
  have Mt := He.meth_ok (c.fact 47 rfl)
  have pp : PropOf K (He.ga K "Frame") "names" _ _ := ZH.prop_ok (by have q := c.more; unfold ex at q; rw [Bool.and_eq_true] at q; exact q.1)
  obtain ⟨fdI, FI⟩ := c.def_ 25 rfl
  obtain ⟨fdT, FT⟩ := c.def_ 26 rfl
  obtain ⟨fdN, FN⟩ := c.def_ 27 rfl
  obtain ⟨fd, FL⟩ := c.def_ 24 rfl
  have e := hfa.symm.trans (He.glo_ok X G (c.fact 24 rfl))
  cases e
  have D_is_whole := def0 X G c (x := "is_whole") 0 0 rfl rfl
  have D_is_name := def0 X G c (x := "is_name") 1 1 rfl rfl
  have D_is_kind := def0 X G c (x := "is_kind") 2 2 rfl rfl
  have D_is_text := def0 X G c (x := "is_text") 3 3 rfl rfl
  have D_is_value := def0 X G c (x := "is_value") 4 4 rfl rfl
  have D_is_pair := def0 X G c (x := "is_pair") 5 5 rfl rfl
  have D_is_column := def0 X G c (x := "is_column") 6 6 rfl rfl
  have D_valid_columns := def0 X G c (x := "valid_columns") 7 7 rfl rfl
  have D_check_schema := def0 X G c (x := "check_schema") 8 8 rfl rfl
  have D_is_row := def0 X G c (x := "is_row") 9 9 rfl rfl
  have D_check_rows := def0 X G c (x := "check_rows") 10 10 rfl rfl
  have D_truth_text := def0 X G c (x := "truth_text") 11 11 rfl rfl
  have D_table_cell := def0 X G c (x := "table_cell") 12 12 rfl rfl
  have D_table_line := def0 X G c (x := "table_line") 13 13 rfl rfl
  have D__law_cell := def0 X G c (x := "_law_cell") 14 14 rfl rfl
  have D__law_pool := def0 X G c (x := "_law_pool") 15 15 rfl rfl
  have D__law_draw := def0 X G c (x := "_law_draw") 16 16 rfl rfl
  have D__law_calls := def0 X G c (x := "_law_calls") 17 17 rfl rfl
  have D__law_worth := def0 X G c (x := "_law_worth") 18 18 rfl rfl
  have D__law_heads := def0 X G c (x := "_law_heads") 19 19 rfl rfl
  have D__law_lines := def0 X G c (x := "_law_lines") 20 20 rfl rfl
  have D__law_wide := def0 X G c (x := "_law_wide") 21 21 rfl rfl
  have D__law_padded := def0 X G c (x := "_law_padded") 22 22 rfl rfl
  have D__law_right := def0 X G c (x := "_law_right") 23 23 rfl rfl
  have D_names_of := def0 X G c (x := "names_of") 49 28 rfl rfl
  have b := FunD.bindsA (ps := ["script"]) FL fun _ _ _ _ _ _ us hl => match us, hl with | [_], _ => rfl
  refine ⟨fd, fun s v => b s [v] rfl, fun base _ _ => ?_⟩
  have F_is_whole := kn_is_whole (P := P) (w := w) (base := base) D_is_whole T
  have F_is_name := kn_is_name (P := P) (w := w) (base := base) D_is_name T
  have F_is_kind := kn_is_kind (P := P) (w := w) (base := base) D_is_kind T
  have F_is_text := kn_is_text (P := P) (w := w) (base := base) D_is_text T
  have F_is_value := kn_is_value D_is_value T F_is_whole F_is_text
  have F_is_pair := kn_is_pair (P := P) (w := w) (base := base) D_is_pair T
  have F_is_column := kn_is_column D_is_column T F_is_pair F_is_name F_is_kind
  have F_valid_columns := kn_valid_columns D_valid_columns T F_is_column
  have F_check_schema := kn_check_schema D_check_schema T F_valid_columns
  have F_is_row := kn_is_row D_is_row T F_is_value
  have F_check_rows := kn_check_rows D_check_rows T F_is_row
  have M_Frame := mk_Frame FI gF M TF F_check_schema F_check_rows
  have F_truth_text := kn_truth_text (P := P) (w := w) (base := base) D_truth_text T
  have F_table_cell := kn_table_cell D_table_cell T F_truth_text
  have F_table_line := kn_table_line D_table_line T F_table_cell
  have F_names_of := kn_names_of (P := P) (w := w) (base := base) D_names_of T
  have P_names := pn_names (P := P) (w := w) (base := base) pp ⟨fdN, FN⟩ T TF F_names_of
  have Q_table := mn_table Mt ⟨fdT, FT⟩ T TF P_names F_table_line
  have F_cell := kn__law_cell (P := P) (w := w) (base := base) D__law_cell T
  have F_pool := kn__law_pool (P := P) (w := w) (base := base) D__law_pool T
  have F_draw := kn__law_draw (P := P) (w := w) (base := base) D__law_draw T
  have F_calls := kn__law_calls D__law_calls T F_draw
  have F_worth := kn__law_worth D__law_worth T F_draw
  have F_heads := kn__law_heads D__law_heads T F_draw
  have F_lines := kn__law_lines D__law_lines T F_draw F_worth
  have F_wide := kn__law_wide D__law_wide T F_draw F_calls F_heads
  have F_padded := kn__law_padded (P := P) (w := w) (base := base) D__law_padded T
  have F_right := kn__law_right D__law_right T TF F_wide F_lines F_padded M_Frame Q_table
  exact ok_law FL T TF F_cell F_pool F_right M_Frame Q_table
end
end Z
open PySem PySem.W PySem.Calls PyProof.Rows
theorem PySem.Challenge.cw_labelframes_k05_tables_of_frames_holds : PySem.Challenge.rw_labelframes_k05_tables_of_frames.Holds := by
  w_on; o_law
  refine HandSHeadRun.head_any (r := OpenLaw.row PySem.Challenge.rw_labelframes_k05_tables_of_frames) (q := view (OpenLaw.row PySem.Challenge.rw_labelframes_k05_tables_of_frames).prog [58]) (H := Z.hk) (ob := Z.ob) (M := 8000) (loose := Z.loose) (d := HandSHeadRun.topDef (OpenLaw.row PySem.Challenge.rw_labelframes_k05_tables_of_frames).prog 58) (kwd := []) Z.ob_eq
    (by kernel_rfl) (fun s => by kernel_rfl) Z.run (by kernel_rfl) (by kernel_rfl) (by kernel_rfl) (by rfl) (by first | assumption | decide +kernel) (by decide +kernel) ⟨rfl, rfl, rfl, rfl, rfl, by decide +kernel⟩ ?hw ?hc
  case hw => w_witness2
  case hc =>
    refine L2.walk_ofE (l := PySem.Challenge.rw_labelframes_k05_tables_of_frames) (n := 63) (k := 9) (x := "script") (CX := L2.CX0) rfl (by decide) (by kernel_rfl) ⟨rfl, by decide, by decide⟩ ?F (fun _ _ _ _ z => z)
    intro w mg fa h Y G hmg0
    obtain ⟨K, KX, c⟩ := Y
    have hmg : mg ("law" : PySem.Str) = some (.ref fa) := by
      rw [← (show (HandSHeadRun.topDef (OpenLaw.row PySem.Challenge.rw_labelframes_k05_tables_of_frames).prog 58).name = ("law" : PySem.Str) by kernel_rfl)]
      exact hmg0
    obtain ⟨fd, hb, hF⟩ := Z.facts (P := (PySem.Challenge.rw_labelframes_k05_tables_of_frames).prog) (w := w) KX G hmg c
    exact ⟨K, fd, Z.spLaw K, KX, hb, fun H a ns hl _ hS => ⟨a, ns, rfl, hS, hl, fun _ => rfl⟩, hF⟩
