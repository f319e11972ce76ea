import PyProof.Rows.All
import Wide.All
import OpenK.AllK
import Wide.FinOn
import HandS.ForMost
import HandS.IsInst
import HandS.StrMore
import HandS.SetKeys
import HandS.Property
import HandS.Defaults
import HandS.Zip
import HandS.Star
import HandS.Exc
import HandS.WordsExc
import HandS.Walk
import HandS.FStr
import KE.KExcInit
import KE.KExcIs
import HandS.ExcInit
import HandS.ExcValue
import HandS.ExcField
import HandS.ExcIs
import HandS.HeadEnd
import HandS.MakeKw
import HandS.Head0
import HandS.Head1
import HandS.Head2
import HandS.HeadHook1
import HandS.HeadHook2
import PySem.Challenge.RW_labelframes_k09_errors_made
set_option Elab.async false
set_option linter.all false
set_option maxRecDepth 100000
set_option maxHeartbeats 4000000
namespace Z
open PySem PySem.Spec PyProof.Rows L2

theorem same_new {H : Hp} {p : Addr} {o : HO} (h : H p = none) : Same H (upd H p o) := fun b u e => by
  rw [upd_ne (ne_of_none e h)]; exact e
theorem same_t {K : PySem.W.Frag} {H H' : Hp} {a : Addr} {xs : List V} (e : Same H H') (h : SqT K H a xs) : SqT K H' a xs := by
  rcases h with r | r
  · rcases r with r | ⟨o, r⟩
    · exact .inl (.inl (e _ _ r))
    · exact .inl (.inr ⟨o, e _ _ r⟩)
  · exact .inr r

/-! a call of an own def, by its name -/
structure Kn (P : Program) (w : World) (K : PySem.W.Frag) (mg : Str → Option Value) (base : Heap) (CX : CXT) (x : Str) (k : Nat) (ps : List Str) (dvs : List V) (sp : Sp) : Prop where
  ex : ∃ f fd ds, FnOk P w K mg base CX k f fd ps sp ∧ mg x = some (.ref f) ∧ PySem.W.keepIn K (.ref f) = true ∧ Binds K fd ps ds ∧ Vals dvs ds
section
variable {X : Cx} {CX : CXT} {x : Str} {k j : Nat} {ps : List Str} {dvs : List V} {sp : Sp} {e : Expr} {es : List Expr} {t : TA} {p pos : Pos} {E : XK}
theorem pe_own (F : Kn X.prog X.w X.K X.mg X.base CX x k ps dvs sp) (hr : Room j X.A) (hkj : k ≤ j) (hx : Passes CX X E) (ha : PA X (e :: es) t) (hg : Gl X x := by rfl) (hdb : (x == ("__debug__" : Str)) = false := by decide)
    (he : starEach (e :: es) X.env = (false, eval e X.env) :: starEach es X.env := by rfl) (hpl : (backTo pos (starEach es X.env)).any (·.1) = false := by rfl) :
    PE X (.Call (.Name x p) (e :: es) [] pos) (tCall sp dvs E t) := by
  obtain ⟨f, fd, ds, F1, m, kp, b, vd⟩ := F.ex
  exact pe_call F1 (hr.mono hkj) hg m kp b vd hx ha hdb he hpl
end
/-! str * int -/
def rMulS : R2 := fun x y H Q => ∃ (z : Str) (n : Int), x = .str z ∧ y = .int n ∧ MulOk z n ∧ Q (.str (Txt.mul z n)) H
theorem op_mul_str {X : Cx} : OpR X (binaryOp .Mult) rMulS := by
  intro pins s σ H x y v u Q I rx ry h
  obtain ⟨z, n, rfl, rfl, hok, hq⟩ := h
  obtain ⟨t, rfl⟩ := rx
  obtain ⟨t', rfl⟩ := ry
  exact PySem.SB.mul hok fun t2 k => ⟨V.str (Txt.mul z n), H, I.tok k, ⟨t2, rfl⟩, hq⟩

/-! the pool: a list of three ints that calls may change -/
def PoolP (p : Addr) (h : Heap) : Prop := ∃ (i j k : Int) (its : List Value) (n : Nat), -(2 ^ 64) < i ∧ i < 2 ^ 64 ∧ Vals [.int i, .int j, .int k] its ∧ h.get? p = some { cls := .type "list", data := .seq its.toArray n }
def Pool (p : Addr) : HO := .ext (PoolP p)
theorem pool_ok {P : Program} {w : World} {H : Hp} {h : Heap} {p : Addr} (x : PoolP p h) : ObjOk P w H h p (Pool p) := by
  refine ⟨x, ?_, fun h1 h2 y k => ?_⟩
  · obtain ⟨i, j, k, its, n, _, _, _, e⟩ := x; exact ⟨_, e⟩
  · obtain ⟨i, j, k', its, n, a, b, c, e⟩ := y; exact ⟨i, j, k', its, n, a, b, c, k _ e⟩
theorem hok_pool_in {P : Program} {w : World} {H : Hp} {h : Heap} {p : Addr} (x : HOk P w H h) (e : H p = some (Pool p)) :
    ∃ i j k : Int, -(2 ^ 64) < i ∧ i < 2 ^ 64 ∧ HOk P w (upd H p (.lst [.int i, .int j, .int k])) h := by
  obtain ⟨⟨i, j, k, its, n, a, b, r, g⟩, _, _⟩ := x p _ e
  refine ⟨i, j, k, a, b, fun c u q => ?_⟩
  by_cases hc : c = p
  · subst hc; rw [upd_same] at q; cases q
    exact ⟨by show 3 ≤ sizeLine; decide, its, n, r, g⟩
  · rw [upd_ne hc] at q
    refine (x c u q).stay (fun b' v _ z => z) (fun b' z => ?_) fun b' xs z => ?_
    · rw [upd_ne (fun y => by subst y; rw [e] at z; cases z)]; exact z
    · rw [upd_ne (fun y => by subst y; rw [e] at z; cases z)]; exact z
theorem hok_pool_out {P : Program} {w : World} {H : Hp} {h : Heap} {p : Addr} {i j k : Int} (x : HOk P w H h) (e : H p = some (.lst [.int i, .int j, .int k])) (a : -(2 ^ 64) < i) (b : i < 2 ^ 64) : HOk P w (upd H p (Pool p)) h := by
  intro c u q
  by_cases hc : c = p
  · subst hc; rw [upd_same] at q; cases q
    obtain ⟨_, its, n, r, g⟩ := x c _ e
    exact pool_ok ⟨i, j, k, its, n, a, b, r, g⟩
  · rw [upd_ne hc] at q
    refine (x c u q).stay (fun b' v _ z => z) (fun b' z => ?_) fun b' xs z => ?_
    · rw [upd_ne (fun y => by subst y; rw [e] at z; cases z)]; exact z
    · rw [upd_ne (fun y => by subst y; rw [e] at z; cases z)]; exact z
/-- a def that reads and writes the pool as a list, told of the pool as a pool -/
theorem FnOk.pool {P : Program} {w : World} {K : PySem.W.Frag} {mg : Str → Option Value} {base : Heap} {k : Nat} {f : Addr} {fd : FuncData} {ps : List Str} {sp sp' : Sp}
    (F : FnOk P w K mg base CX0 k f fd ps sp)
    (h : ∀ vs H Q E, sp' vs H Q E → ∃ p, H p = some (Pool p) ∧ ∀ i j k : Int, -(2 ^ 64) < i → i < 2 ^ 64 → sp vs (upd H p (.lst [.int i, .int j, .int k]))
      (fun v H1 => ∃ i j k : Int, -(2 ^ 64) < i ∧ i < 2 ^ 64 ∧ H1 p = some (.lst [.int i, .int j, .int k]) ∧ Q v (upd H1 p (Pool p))) E) : FnOk P w K mg base CX0 k f fd ps sp' := by
  refine ⟨fun vs H Q E q => ?_, fun A outer s H args us vs Q E hr e0 hb hv q => ?_⟩
  · obtain ⟨p, _, z⟩ := h vs H Q E q
    exact F.len _ _ _ _ (z 0 0 0 (by decide) (by decide))
  · obtain ⟨p, hp, z⟩ := h vs H Q E q
    obtain ⟨i, j, k', a, b, hok⟩ := hok_pool_in e0.hok hp
    have nf : ∀ c, H c = none → upd H p (.lst [.int i, .int j, .int k']) c = none := fun c e => by
      rw [upd_ne (fun y => by subst y; rw [hp] at e; cases e)]; exact e
    have e1 : Env0 P w K mg base A outer s (upd H p (.lst [.int i, .int j, .int k'])) :=
      { frames := e0.frames, mod := e0.mod, bs := fun c o e => ⟨(e0.bs c o e).1, nf _ (e0.bs c o e).2⟩, bsz := e0.bsz, funs := e0.funs, frf := fun c e => nf _ (e0.frf c e), hok := hok, bare := e0.bare }
    refine codeAny_mono (F.run A outer s _ args us vs _ E hr e1 hb hv (z i j k' a b)) fun r s' hq => ?_
    cases r with
    | error er => exact hq
    | ok fl =>
      cases fl with
      | ret u =>
        obtain ⟨v, H1, o1, o2, un, hk, rv, i1, j1, k1, a1, b1, h1, qq⟩ := hq
        refine ⟨v, _, o1, o2, ?_, hok_pool_out hk h1 a1 b1, rv, qq⟩
        have np : ∀ c, H c = none → c ≠ p := fun c e y => by subst y; rw [hp] at e; cases e
        refine { keep := fun c o e n m m2 => un.keep c o e (nf c n) m m2, slot := fun c o e n m m2 => un.slot c o e (nf c n) m m2, free := fun c o e n m => ?_, there := fun c o e m => un.there c o e m, tups := fun c xs e => ?_, frzs := fun c o u e => ?_, tbls := fun c xs e => ?_ }
        · rw [upd_ne (np c n)]; exact un.free c o e (nf c n) m
        · have hc : c ≠ p := fun y => by subst y; rw [hp] at e; cases e
          rw [upd_ne hc]; exact un.tups c xs (by rw [upd_ne hc]; exact e)
        · have hc : c ≠ p := fun y => by subst y; rw [hp] at e; cases e
          rw [upd_ne hc]; exact un.frzs c o u (by rw [upd_ne hc]; exact e)
        · have hc : c ≠ p := fun y => by subst y; rw [hp] at e; cases e
          rw [upd_ne hc]; exact un.tbls c xs (by rw [upd_ne hc]; exact e)
      | next => exact hq
      | brk => exact hq
      | cont => exact hq
/-- a def that hands back such a list, told of it as a pool -/
theorem FnOk.poolNew {P : Program} {w : World} {K : PySem.W.Frag} {mg : Str → Option Value} {base : Heap} {k : Nat} {f : Addr} {fd : FuncData} {ps : List Str} {sp sp' : Sp}
    (F : FnOk P w K mg base CX0 k f fd ps sp)
    (h : ∀ vs H Q E, sp' vs H Q E → sp vs H (fun v H1 => ∃ p, ∃ i j k : Int, -(2 ^ 64) < i ∧ i < 2 ^ 64 ∧ H p = none ∧ H1 p = some (.lst [.int i, .int j, .int k]) ∧ Q v (upd H1 p (Pool p))) E) : FnOk P w K mg base CX0 k f fd ps sp' := by
  refine ⟨fun vs H Q E q => F.len _ _ _ _ (h vs H Q E q), fun A outer s H args us vs Q E hr e0 hb hv q => ?_⟩
  refine codeAny_mono (F.run A outer s _ args us vs _ E hr e0 hb hv (h vs H Q E q)) fun r s' hq => ?_
  cases r with
  | error er => exact hq
  | ok fl =>
    cases fl with
    | ret u =>
      obtain ⟨v, H1, o1, o2, un, hk, rv, p, i1, j1, k1, a1, b1, h0, h1, qq⟩ := hq
      refine ⟨v, _, o1, o2, ?_, hok_pool_out hk h1 a1 b1, rv, qq⟩
      refine { keep := fun c o e n m m2 => un.keep c o e n m m2, slot := fun c o e n m m2 => un.slot c o e n m m2, free := fun c o e n m => ?_, there := fun c o e m => un.there c o e m, tups := fun c xs e => ?_, frzs := fun c o u e => ?_, tbls := fun c xs e => ?_ }
      · have hc : c ≠ p := fun y => by
          subst y
          have z := un.free c o e n m
          rw [h1] at z; cases z
        rw [upd_ne hc]; exact un.free c o e n m
      · have hc : c ≠ p := fun y => by subst y; rw [h0] at e; cases e
        rw [upd_ne hc]; exact un.tups c xs e
      · have hc : c ≠ p := fun y => by subst y; rw [h0] at e; cases e
        rw [upd_ne hc]; exact un.frzs c o u e
      · have hc : c ≠ p := fun y => by subst y; rw [h0] at e; cases e
        rw [upd_ne hc]; exact un.tbls c xs e
    | next => exact hq
    | brk => exact hq
    | cont => exact hq
end Z
set_option Elab.async false
set_option linter.all false
set_option maxRecDepth 100000
set_option maxHeartbeats 4000000
namespace Z
open PySem PySem.Spec PyProof.Rows L2

/-- all but lists stand -/
def SameT (H H' : Hp) : Prop := ∀ b o, (∀ xs, o ≠ HO.lst xs) → H b = some o → H' b = some o
theorem Same.t {H H' : Hp} (e : Same H H') : SameT H H' := fun b o _ h => e b o h
theorem SameT.trans {H H1 H2 : Hp} (a : SameT H H1) (b : SameT H1 H2) : SameT H H2 := fun c o n h => b c o n (a c o n h)
theorem SameT.refl (H : Hp) : SameT H H := fun _ _ _ h => h
theorem sameT_list {H : Hp} {D : Addr} {xs ys : List V} (h : H D = some (.lst xs)) : SameT H (upd H D (.lst ys)) := fun b o n q => by
  by_cases e : b = D
  · subst e; rw [h] at q; cases q; exact absurd rfl (n xs)
  · rw [upd_ne e]; exact q
theorem sameT_t {K : PySem.W.Frag} {H H' : Hp} {a : Addr} {xs : List V} (e : SameT H H') (h : SqT K H a xs) : SqT K H' a xs := by
  rcases h with r | r
  · rcases r with r | ⟨o, r⟩
    · exact .inl (.inl (e _ _ (by intro _ q; cases q) r))
    · exact .inl (.inr ⟨o, e _ _ (by intro _ q; cases q) r⟩)
  · exact .inr r
theorem same_app {H H1 : Hp} {D : Addr} {ys : List V} (e : Same H H1) (h : H D = none) : Same H (upd H1 D (.lst ys)) := fun b o q => by
  rw [upd_ne (ne_of_none q h)]; exact e b o q

/-- a comprehension whose element only adds to the heap -/
theorem lc_ok {J : It} {n : Nat} {G : Hp → Prop} {Y : Nat → Hp → V → Hp → Prop} (w : Walk J n G Y) {g : TG} {te : TE} {vs : List Nat} {σ : L2.St} {H1 : Hp} {D : Addr} {Qd : Hp → Prop}
    (R : Nat → V → Hp → Prop) (hD : H1 D = none) (hn : n < sizeLine) (hG : ∀ H, Same H1 H → G H) (hR : ∀ i y H H', i < n → SameT H H' → R i y H → R i y H')
    (hY : ∀ i H x H', Y i H x H' → Same H H')
    (hs : ∀ i x H H', i < n → Same H1 H → Y i H x H' → ∀ Q : VK, (∀ y H4, Same H' H4 → R i y H4 → Q y H4) → g x (wipe σ vs) H' fun σ2 H2 => wipe σ2 vs = wipe σ vs ∧ te σ2 H2 Q)
    (hd : ∀ H acc, Same H1 H → H D = some (.lst acc) → acc.length = n → (∀ i y, acc[i]? = some y → R i y H) → Qd H) :
    ∃ W : Nat → Nat → Hp → Prop, (∃ m, W 0 m (upd H1 D (.lst []))) ∧ ∀ i m H, W i m H → (J.stop i H ∧ Qd H) ∨ (J.go i H ∧ ∃ Nx : Hp → Prop, (∀ H', Nx H' → ∃ m', m' < m ∧ W (i + 1) m' H') ∧ ∀ x H', J.yld i H x H' → g x (wipe σ vs) H' fun σ2 H2 => wipe σ2 vs = wipe σ vs ∧ tYes σ2 H2 fun b H3 =>
      if b = true then te σ2 H3 fun y H4 => ∃ acc, H4 D = some (.lst acc) ∧ acc.length < sizeLine ∧ Nx (upd H4 D (.lst (acc ++ [y]))) else Nx H3) := by
  refine lc_it w (fun i H => i ≤ n ∧ Same H1 H ∧ ∃ acc, H D = some (.lst acc) ∧ acc.length = i ∧ ∀ j y, acc[j]? = some y → R j y H) ⟨Nat.zero_le _, same_new hD, [], upd_same, rfl, fun j y q => by simp at q⟩ (fun i H _ q => hG H q.2.1) ?_ ?_
  · rintro i x H H' hi ⟨_, s1, acc, hacc, hl, ha⟩ y1
    have sY := hY i H x H' y1
    have := hs i x H H' hi s1 y1 (fun y H4 => ∃ acc, H4 D = some (.lst acc) ∧ acc.length < sizeLine ∧ (i + 1 ≤ n ∧ Same H1 (upd H4 D (.lst (acc ++ [y]))) ∧ ∃ acc', (upd H4 D (.lst (acc ++ [y]))) D = some (.lst acc') ∧ acc'.length = i + 1 ∧ ∀ j y', acc'[j]? = some y' → R j y' (upd H4 D (.lst (acc ++ [y])))))
      (fun y H4 s4 r4 => ⟨acc, s4 _ _ (sY _ _ hacc), by omega, hi, same_app ((s1.trans sY).trans s4) hD, acc ++ [y], upd_same, by simp [hl], fun j y' q => ?_⟩)
    · unfold tYes
      simp only [↓reduceIte]
      exact this
    · have h4 : H4 D = some (.lst acc) := s4 _ _ (sY _ _ hacc)
      have sT : SameT H4 (upd H4 D (.lst (acc ++ [y]))) := sameT_list h4
      by_cases hj : j < acc.length
      · rw [List.getElem?_append_left hj] at q
        exact hR j y' _ _ (by omega) (((Same.t sY).trans (Same.t s4)).trans sT) (ha j y' q)
      · have hj2 : j = acc.length := by
          have := (List.getElem?_eq_some_iff.mp q).1
          simp at this; omega
        subst hj2
        rw [List.getElem?_append_right (Nat.le_refl _)] at q
        simp at q
        subst q
        rw [hl]
        exact hR i y _ _ hi sT r4
  · rintro H ⟨_, s1, acc, hacc, hl, ha⟩
    exact hd H acc s1 hacc hl ha

/-! ### data -/
mutual
inductive Da (K : PySem.W.Frag) (H : Hp) : V → PyData → Prop
  | non : Da K H .non .none
  | bl (b : Bool) : Da K H (.bl b) (.bool b)
  | int (i : Int) : Da K H (.int i) (.int i)
  | str (x : Str) : x.length ≤ 1000000 → Da K H (.str x) (.str x)
  | lst {a : Addr} {xs : List V} {ds : List PyData} : SqL K H a xs → DaL K H xs ds → Da K H (.ref a) (.list ds)
  | tup {a : Addr} {xs : List V} {ds : List PyData} : SqT K H a xs → DaL K H xs ds → Da K H (.ref a) (.tuple ds)
  | dic {a : Addr} : H a = some (.dK []) → Da K H (.ref a) (.dict [])
inductive DaL (K : PySem.W.Frag) (H : Hp) : List V → List PyData → Prop
  | nil : DaL K H [] []
  | cons {v : V} {vs : List V} {d : PyData} {ds : List PyData} : Da K H v d → DaL K H vs ds → DaL K H (v :: vs) (d :: ds)
end
section
variable {K : PySem.W.Frag} {H H' : Hp}
mutual
theorem Da.mono (e : Same H H') : ∀ {v : V} {d : PyData}, Da K H v d → Da K H' v d
  | _, _, .non => .non
  | _, _, .bl b => .bl b
  | _, _, .int i => .int i
  | _, _, .str x h => .str x h
  | _, _, .lst h t => .lst (Same.seq e h) (DaL.mono e t)
  | _, _, .tup h t => .tup (same_t e h) (DaL.mono e t)
  | _, _, .dic h => .dic (e _ _ h)
theorem DaL.mono (e : Same H H') : ∀ {vs : List V} {ds : List PyData}, DaL K H vs ds → DaL K H' vs ds
  | _, _, .nil => .nil
  | _, _, .cons h t => .cons (Da.mono e h) (DaL.mono e t)
end
theorem DaL.length : ∀ {vs : List V} {ds : List PyData}, DaL K H vs ds → vs.length = ds.length
  | _, _, .nil => rfl
  | _, _, .cons _ t => by rw [List.length_cons, List.length_cons, DaL.length t]
theorem DaL.get : ∀ {vs : List V} {ds : List PyData} {i : Nat} {v : V}, DaL K H vs ds → vs[i]? = some v → ∃ d, ds[i]? = some d ∧ Da K H v d
  | _, _, _, _, .nil, e => by simp at e
  | _, _, 0, _, .cons h _, e => by simp at e; subst e; exact ⟨_, rfl, h⟩
  | _, _, i + 1, _, .cons _ t, e => by
    obtain ⟨d, h1, h2⟩ := DaL.get (i := i) t (by simpa using e)
    exact ⟨d, by simpa using h1, h2⟩
theorem DaL.get' : ∀ {vs : List V} {ds : List PyData} {i : Nat} {d : PyData}, DaL K H vs ds → ds[i]? = some d → ∃ v, vs[i]? = some v ∧ Da K H v d
  | _, _, _, _, .nil, e => by simp at e
  | _, _, 0, _, .cons h _, e => by simp at e; subst e; exact ⟨_, rfl, h⟩
  | _, _, i + 1, _, .cons _ t, e => by
    obtain ⟨d, h1, h2⟩ := DaL.get' (i := i) t (by simpa using e)
    exact ⟨d, by simpa using h1, h2⟩
theorem DaL.of : ∀ {vs : List V} {ds : List PyData}, vs.length = ds.length → (∀ (i : Nat) v d, vs[i]? = some v → ds[i]? = some d → Da K H v d) → DaL K H vs ds
  | [], [], _, _ => .nil
  | [], _ :: _, h, _ => by simp at h
  | _ :: _, [], h, _ => by simp at h
  | v :: vs, d :: ds, h, f => .cons (f 0 v d rfl rfl) (DaL.of (by simpa using h) fun i v d a b => f (i + 1) v d (by simpa using a) (by simpa using b))
/-- no lists, no dicts within: what tuples and scalars tell -/
def pureD : PyData → Bool
  | .list _ => false
  | .dict _ => false
  | .tuple ds => pureL ds
  | _ => true
where pureL : List PyData → Bool
  | [] => true
  | d :: ds => pureD d && pureL ds
mutual
theorem Da.monoT (e : SameT H H') : ∀ {v : V} {d : PyData}, pureD d = true → Da K H v d → Da K H' v d
  | _, _, _, .non => .non
  | _, _, _, .bl b => .bl b
  | _, _, _, .int i => .int i
  | _, _, _, .str x h => .str x h
  | _, _, p, .lst h t => by simp [pureD] at p
  | _, _, p, .tup h t => .tup (sameT_t e h) (DaL.monoT e (by simpa [pureD] using p) t)
  | _, _, p, .dic h => by simp [pureD] at p
theorem DaL.monoT (e : SameT H H') : ∀ {vs : List V} {ds : List PyData}, pureD.pureL ds = true → DaL K H vs ds → DaL K H' vs ds
  | _, _, _, .nil => .nil
  | _, _, p, .cons h t => by
    simp only [pureD.pureL, Bool.and_eq_true] at p
    exact .cons (Da.monoT e p.1 h) (DaL.monoT e p.2 t)
end
/-- the type's name -/
def tyD : PyData → String
  | .none => "NoneType" | .bool _ => "bool" | .int _ => "int" | .str _ => "str" | .list _ => "list" | .tuple _ => "tuple" | .dict _ => "dict"
theorem Da.ty {v : V} {d : PyData} (h : Da K H v d) : TyX K H v (.type (tyD d)) := by
  cases h with
  | non => exact .base .non
  | bl b => exact .base (.bl b)
  | int i => exact .base (.int i)
  | str x _ => exact .base (.str x)
  | lst h t =>
    rcases h with (h | ⟨o, h⟩) | ⟨o, its, n, h1, h2, _⟩
    · exact .base (.lst h)
    · exact .base (.frz h)
    · exact .kList h1 h2
  | tup h t =>
    rcases h with (h | ⟨o, h⟩) | ⟨o, its, n, h1, h2, _⟩
    · exact .base (.tup h)
    · exact .fTuple h
    · exact .kTuple h1 h2
  | dic h => exact .base (.dK h)
/-- isinstance of data -/
def isD (d : PyData) (T : String) : Bool := tyD d == T || (tyD d == "bool" && T == "int")
def tys : List String := ["NoneType", "bool", "int", "str", "list", "tuple", "dict"]
theorem kit_all : (tys.all fun a => ["int", "str", "bool", "tuple", "list", "dict"].all fun b => kitB a b == some (a == b || (a == "bool" && b == "int"))) = true := by decide +kernel
theorem tyD_mem (d : PyData) : tyD d ∈ tys := by cases d <;> simp [tyD, tys]
theorem kit_D (d : PyData) (T : String) (hT : T ∈ ["int", "str", "bool", "tuple", "list", "dict"]) : PySem.W.kitOne K (.type (tyD d)) (.type T) = some (isD d T) :=
  kit_ty (eq_of_beq (List.all_eq_true.mp (List.all_eq_true.mp kit_all _ (tyD_mem d)) T hT))
theorem isi_D {v : V} {d : PyData} {T : String} {Q : VK} (h : Da K H v d) (hT : T ∈ ["int", "str", "bool", "tuple", "list", "dict"]) (q : Q (.bl (isD d T)) H) : rIsi K [v, .ty T] H Q :=
  ⟨_, _, _, _, _, rfl, .ty T, h.ty, kit_D d T hT, q⟩
end
end Z
set_option Elab.async false
set_option linter.all false
set_option maxRecDepth 100000
set_option maxHeartbeats 4000000
/-! the rules whose reading speaks of the written part, with that part as a letter of its own (in a comprehension's block it must not hang on the block) -/
namespace Z
open PySem PySem.Spec PyProof.Rows L2
section
variable {X : Cx} {K : PySem.W.Frag}
theorem k_ixL (h : X.K = K := by rfl) : IxR X (rIxL K) := by subst h; exact ix_list
theorem k_ixT (h : X.K = K := by rfl) : IxR X (rIxT K) := by subst h; exact ix_tup
theorem k_ix (h : X.K = K := by rfl) : IxR X (rIx K) := by subst h; exact ix_seq
theorem k_isi (h : X.K = K := by rfl) : CallR X (.builtin "isinstance") (rIsi K) := by subst h; exact call_isi
theorem k_in (h : X.K = K := by rfl) : OpR X (compareOp .In) (rIn K false) := by subst h; exact op_in_seq
theorem k_notIn (h : X.K = K := by rfl) : OpR X (compareOp .NotIn) (rIn K true) := by subst h; exact op_notIn_seq
theorem k_eqD (hu : X.A.units + 64 < cLine) (h : X.K = K := by rfl) : OpR X (compareOp .Eq) (rEqD K) := by subst h; exact op_eqD hu
theorem k_neD (hu : X.A.units + 64 < cLine) (h : X.K = K := by rfl) : OpR X (compareOp .NotEq) (rNeD K) := by subst h; exact op_neD hu
def rLenQ (K : PySem.W.Frag) : List V → Hp → VK → Prop := fun xs H Q => ∃ p ys, xs = [.ref p] ∧ (SqL K H p ys ∨ SqT K H p ys) ∧ Q (.int ys.length) H
theorem k_len (h : X.K = K := by rfl) : CallR X (.builtin "len") (rLenQ K) := by subst h; exact call_len_seq
def rTupOf (K : PySem.W.Frag) : List V → Hp → VK → Prop := fun xs H Q => ∃ p ys, xs = [.ref p] ∧ ((SqL K H p ys ∧ ∀ l, H l = none → Q (.ref l) (upd H l (.tup ys))) ∨ (SqT K H p ys ∧ Q (.ref p) H))
theorem k_tupOf (h : X.K = K := by rfl) : CallR X (.type "tuple") (rTupOf K) := by subst h; exact call_tuple_of
def rListOf (K : PySem.W.Frag) : List V → Hp → VK → Prop := fun xs H Q => ∃ p ys, xs = [.ref p] ∧ (SqL K H p ys ∨ SqT K H p ys) ∧ ∀ l, H l = none → Q (.ref l) (upd H l (.lst ys))
theorem k_listOf (h : X.K = K := by rfl) : CallR X (.type "list") (rListOf K) := by subst h; exact call_list_of
theorem k_all (hc : X.calm = true) (h : X.K = K := by rfl) : CallR X (.builtin "all") (rAll K) := by subst h; exact cr_all hc
theorem k_slL (h : X.K = K := by rfl) : SlR X (rSlL K) := by subst h; exact sl_list
theorem k_slT (h : X.K = K := by rfl) : SlR X (rSlT K) := by subst h; exact sl_tup
theorem k_catT (h : X.K = K := by rfl) : OpR X (binaryOp .Add) (rCatT K) := by subst h; exact op_catT
variable {tg l e o a b : Expr} {es : List Expr} {tl te to : TE} {t ta : TA} {pos apos cpos p : Pos}
theorem k_list (hl : PE X l tl) (h : X.K = K := by rfl) : PI X tg l (iList K tl) := by subst h; exact pi_list hl
theorem k_tup (hl : PE X l tl) (h : X.K = K := by rfl) : PI X tg l (iTup K tl) := by subst h; exact pi_tup hl
theorem k_zip {e2 : Expr} {tpos : Pos} {elts : List Expr} {kk : Nat} (hm : X.mg "zip" = none) (ha : PA X [e, e2] ta) (h : X.K = K := by rfl) (hg : Gl X "zip" := by rfl)
    (hs : starEach [e, e2] X.env = (false, eval e X.env) :: starEach [e2] X.env := by rfl) (hpl : (backTo pos (starEach [e2] X.env)).any (·.1) = false := by rfl) :
    PI X (.Tuple elts kk tpos) (.Call (.Name "zip" p) [e, e2] [] pos) (RZ.iZipA K ta) := by subst h; exact RZ.pi_zipA hg hm ha hs hpl
theorem k_pgT {es : List Expr} {k : Nat} {t : TGs} {n : Nat} (h : PGs X es t) (hK : X.K = K := by rfl) (hc : X.calm = true := by rfl) (hn : (assignEach es X.env).length = n := by rfl) (hst : (assignEach es X.env).findIdx? (·.1) = none := by rfl) :
    PG X (.Tuple es k pos) (gTup K n t) := by subst hK; exact pg_tup hc h hn hst
theorem k_bm {T id : String} {name : Str} {r : V → List V → Hp → VK → Prop} (pa : PlainAttrs T) (slot : Slot T name id) (hty : typeOf (.builtin id) = pure (.type "method_descriptor")) (hm : MtR X id r) (ho : PE X o to) (ha : PA X (e :: es) t)
    (hK : X.K = K := by rfl)
    (hbase : attributeBase o name X.env (eval o X.env) = eval o X.env := by rfl)
    (hfew : ((backTo cpos (starEach (e :: es) X.env)).all (fun x => !x.1) && (backToKw cpos (keywordEach [] X.env)).all (fun x => x.1.isSome)
      && decide ((e :: es).length + ([] : List Keyword).length + (if ([] : List Keyword).isEmpty then 0 else 1) < 30)) = true := by rfl)
    (hline : (apos.endLine == cpos.line) = true := by rfl) (hs : starEach (e :: es) X.env = (false, eval e X.env) :: starEach es X.env := by rfl) (hplain : (backTo cpos (starEach es X.env)).any (·.1) = false := by rfl) :
    PE X (.Call (.Attribute o name apos) (e :: es) [] cpos) (tBM K T r to t) := by subst hK; exact pe_bm pa slot hty hm ho ha hbase hfew hline hs hplain
theorem k_bm0 {T id : String} {name : Str} {r : V → List V → Hp → VK → Prop} (pa : PlainAttrs T) (slot : Slot T name id) (hty : typeOf (.builtin id) = pure (.type "method_descriptor")) (hm : MtR X id r) (ho : PE X o to)
    (hK : X.K = K := by rfl) (hbase : attributeBase o name X.env (eval o X.env) = eval o X.env := by rfl) (hline : (apos.endLine == cpos.line) = true := by rfl) : PE X (.Call (.Attribute o name apos) [] [] cpos) (tBM0 K T r to) := by
  subst hK; exact pe_bm0 pa slot hty hm ho hbase hline
/-- join, split of texts, told by values -/
def rJoin (K : PySem.W.Frag) : V → List V → Hp → VK → Prop := fun x xs H Q => ∃ a p, ∃ ys : List Str, x = .str a ∧ xs = [.ref p] ∧ (SqL K H p (ys.map V.str) ∨ SqT K H p (ys.map V.str)) ∧
      (ys.map (·.length)).sum + ys.length * a.length ≤ 16777216 ∧ Q (.str (Txt.join a ys)) H
theorem k_join (ho : PE X o to) (he : PE X e te) (hK : X.K = K := by rfl) (hs : starEach [e] X.env = [(false, eval e X.env)] := by rfl) (hbase : attributeBase o "join" X.env (eval o X.env) = eval o X.env := by rfl) (hline : (apos.endLine == pos.line) = true := by rfl) :
    PE X (.Call (.Attribute o "join" apos) [e] [] pos) (tM1 (rJoin K) to te) := by subst hK; exact pe_join ho he hs hbase hline
theorem k_star (he : PE X e te) (hr : PA X es t) (hK : X.K = K := by rfl) (hs : starEach (.Starred e p :: es) X.env = (true, eval e X.env) :: starEach es X.env := by rfl) : PA X (.Starred e p :: es) (StX.tStar K te t) := by
  subst hK; exact StX.pa_star he hr hs
theorem k_fld {f : Str} (he : PE X e te) (hb : attributeBase e f X.env (eval e X.env) = eval e X.env) (hK : X.K = K := by rfl) : PE X (.Attribute e f pos) (tFld K te f) := by subst hK; exact pe_fld he hb
end
end Z
set_option Elab.async false
set_option linter.all false
set_option maxRecDepth 100000
set_option maxHeartbeats 4000000
/-! errors of own classes as values: made (by place or by a word), their one field stored and read, isinstance -/
namespace ZE
open PySem
open Builtin Builtin.ObjectAttr
section
variable {pr : Program} {w : World} {A : Around} {E : Value → Shared → Prop} {R : Result → Shared → Prop} {hp : Heap} {gs : Array GenState} {dr : Drawn} {tk : Nat} {os : OsState}
variable {nm qn : Str} {C N : Addr} {bs bm tail : List Value} {hd : Bool} {sn : List Str} {sub : List Value} {ab : Bool} {col : Option Bool} {dd : Option Addr} {u0 u1 u2 u3 u5 : Option Value} {B idN idI : String}

theorem newK_check {M : Model} (FB : ExcBaseFacts B idN idI tail) (same : ∀ Y : String, bm.contains (.type Y) = tail.contains (.type Y)) {ps : List Value} {kw : List (Str × Value)} {Q : Unit → Shared → Prop}
    (oC : hp.get? C = some (excClassObj nm qn C N bs bm hd sn sub ab col dd u0 u1 u2 u3 u5 idN)) (k : Q () ⟨hp, gs, dr, tk, os⟩) : wpAny M A (checkBuiltinCall idN ⟨.ref C :: ps, kw⟩) Q E ⟨hp, gs, dr, tk, os⟩ := by
  have inB : (Value.ref C :: bm).contains (.type B) = true := by rw [List.contains_cons, same, FB.hasB, Bool.or_true]
  have nost := FB.noStar
  simp only [checkBuiltinCall, FB.newKind, FB.newSplit, FB.newRow]
  repeat (first | refine wpAny_loadPart_at oC ?_ | (refine wpAny_isSubtype_exc oC ?_; rw [inB]) | refine wpAny_staticBase_exc oC ?_ | refine wpAny_madeBy_exc oC ?_ | simp only [bne_self_eq_false, Bool.false_eq_true, if_false] | wp_step)
  exact k
theorem newK_run (FB : ExcBaseFacts B idN idI tail) (same : ∀ Y : String, bm.contains (.type Y) = tail.contains (.type Y)) {ps : List Value} {kw : List (Str × Value)}
    (oC : hp.get? C = some (excClassObj nm qn C N bs bm hd sn sub ab col dd u0 u1 u2 u3 u5 idN)) (small : ps.length ≤ sizeLine)
    (k : R (.ok (.ret (.ref (hp.objs.size + 1)))) ⟨(hp.push (W.kdv_tup ps)).push (HandSPX.excO C hp.objs.size), gs, dr, tk, os⟩) :
    codeAny (model pr w) A (.builtin idN ⟨.ref C :: ps, kw⟩) R ⟨hp, gs, dr, tk, os⟩ := by
  have en := FB.ends
  have inB : (Value.ref C :: bm).contains (.type B) = true := by rw [List.contains_cons, same, FB.hasB, Bool.or_true]
  have inA : (Value.ref C :: bm).contains (.type "AttributeError") = false := by rw [List.contains_cons, same, FB.noAttr]; rfl
  have inN : (Value.ref C :: bm).contains (.type "NameError") = false := by rw [List.contains_cons, same, FB.noName]; rfl
  refine codeAny_builtinAt FB.entry ?_
  unfold Builtin.«BaseException.__new__»
  refine wpAt_bind ?_
  show wpAt _ _ _ (stack >>= _) _ _ _
  refine wpAt_bind (wpAt_stack fun _ _ => wpAt_of_wpAny ?_)
  wp_walk
  refine wpAt_of_wpAny ?_
  rw [FB.owner]
  repeat (first | with_reducible refine wpAny_madeHere_exc FB.canon oC ?_ | with_reducible refine wpAny_loadPart_at oC ?_ | (with_reducible refine wpAny_isSubtype_exc oC ?_; first | rw [inB] | rw [inA] | rw [inN]) | wp_step)
  show R _ _
  rw [Heap.size_push]
  exact k
theorem typeK_run (FB : ExcBaseFacts B idN idI tail) (same : ∀ Y : String, bm.contains (.type Y) = tail.contains (.type Y)) {ps : List Value} {kw : List (Str × Value)} {fI : Addr} {Q : Fin → Shared → Prop}
    (oC : hp.get? C = some (excClassObj nm qn C N bs bm hd sn sub ab col dd u0 u1 u2 u3 u5 idN))
    (li : W.Looks (model pr w) hp (typeLookup (.ref C) "__init__") (some (.ref fI))) (lb : ∀ self, W.Looks (model pr w) hp (bindSpecial (.ref fI) self) (.ref fI, [self])) (small : ps.length ≤ sizeLine)
    (k : codeAny (model pr w) A (.call (.ref fI) ⟨.ref (hp.objs.size + 1) :: ps, kw⟩)
      (fun r s2 => match r with | .error e => E e s2 | .ok (.ret v) => v = .none ∧ Q (.done (.ret (.ref (hp.objs.size + 1)))) s2 | .ok _ => False)
      ⟨(hp.push (W.kdv_tup ps)).push (HandSPX.excO C hp.objs.size), gs, dr, tk, os⟩) :
    wpAny (model pr w) A (Builtin.«type.__call__» ⟨.ref C :: ps, kw⟩) Q E ⟨hp, gs, dr, tk, os⟩ := by
  repeat (first | with_reducible refine wpAny_loadPart_at oC ?_ | with_reducible refine wpAny_madeBy_exc oC ?_ | wp_step)
  refine codeAny_call_builtin_code (Code.quiet_builtin _ FB.quiet) (newK_check FB same oC ?_)
  refine newK_run FB same oC small ?_
  show wpAny _ _ _ _ _ _
  have st : ∀ b o, hp.get? b = some o → ((hp.push (W.kdv_tup ps)).push (HandSPX.excO C hp.objs.size)).get? b = some o := fun b o e => Heap.get?_push_of_some _ (Heap.get?_push_of_some _ e)
  have oC2 := st _ _ oC
  have oE : ((hp.push (W.kdv_tup ps)).push (HandSPX.excO C hp.objs.size)).get? (hp.objs.size + 1) = some (HandSPX.excO C hp.objs.size) := by heap_get
  have inC : (Value.ref C :: bm).contains (.ref C) = true := by simp
  have li2 := li.keeps st
  have lb2 := (lb (.ref (hp.objs.size + 1))).keeps st
  unfold isInstance
  repeat (first | with_reducible refine wpAny_loadPart_at oE ?_ | (with_reducible refine wpAny_isSubtype_exc oC2 ?_; rw [inC]) | wp_step)
  show wpAny _ _ (typeLookup (.ref C) _) _ _ _
  refine li2.at ?_
  refine wpAny_holding (wpAny_bind (lb2.at ?_))
  refine wpAny_bind (wpAny_call (codeAny_mono k fun r s2 z => ?_))
  rcases r with e | (v | _ | _ | _) <;> first | exact z | exact z.elim | skip
  obtain ⟨rfl, z2⟩ := z
  first
    | exact wpAny_pure (wpAny_pure z2)
    | (wp_walk; exact z2)
theorem typeK_check {M : Model} {ps : List Value} {kw : List (Str × Value)} {Q : Unit → Shared → Prop} (oC : hp.get? C = some (excClassObj nm qn C N bs bm hd sn sub ab col dd u0 u1 u2 u3 u5 idN))
    (k : Q () ⟨hp, gs, dr, tk, os⟩) : wpAny M A (checkBuiltinCall "type.__call__" ⟨.ref C :: ps, kw⟩) Q E ⟨hp, gs, dr, tk, os⟩ := by
  have z := tc_sub
  have ty : (⟨hp, gs, dr, tk, os⟩ : Shared).TypeIs (.ref C) "type" := ⟨_, oC, rfl⟩
  simp only [checkBuiltinCall, tc_kind, tc_split]
  repeat (any_goals (first | assumption | with_reducible refine wpAny_loadPart_at oC ?_ | with_reducible refine wpAny_onRaise ?_ | with_reducible refine wpAny_map ?_ | wp_step))
/-- C(.., k = v, ..), C an own error class with its own __init__ -/
theorem errK_run (FB : ExcBaseFacts B idN idI tail) (same : ∀ Y : String, bm.contains (.type Y) = tail.contains (.type Y)) {ps : List Value} {kw : List (Str × Value)} {fI : Addr}
    (oC : hp.get? C = some (excClassObj nm qn C N bs bm hd sn sub ab col dd u0 u1 u2 u3 u5 idN))
    (li : W.Looks (model pr w) hp (typeLookup (.ref C) "__init__") (some (.ref fI))) (lb : ∀ self, W.Looks (model pr w) hp (bindSpecial (.ref fI) self) (.ref fI, [self])) (small : ps.length ≤ sizeLine)
    (k : codeAny (model pr w) (A.under (.builtin "type.__call__" ⟨.ref C :: ps, kw⟩)) (.call (.ref fI) ⟨.ref (hp.objs.size + 1) :: ps, kw⟩) (W.InitBack (hp.objs.size + 1) R)
      ⟨(hp.push (W.kdv_tup ps)).push (HandSPX.excO C hp.objs.size), gs, dr, tk, os⟩) :
    codeAny (model pr w) A (.call (.ref C) ⟨ps, kw⟩) R ⟨hp, gs, dr, tk, os⟩ := by
  have z1 := tc_lookup
  have z2 := tc_bind (.ref C)
  have ty : (⟨hp, gs, dr, tk, os⟩ : Shared).TypeIs (.ref C) "type" := ⟨_, oC, rfl⟩
  refine codeAny_of_tree ?_
  show wpAny _ _ (callAny (.ref C) _) _ _ _
  repeat (any_goals (first | assumption | with_reducible refine wpAny_loadPart_at oC ?_ | wp_step))
  refine ⟨rfl, ?_⟩
  refine codeAny_call_builtin_at (Code.quiet_builtin _ (by decide +kernel)) entry_typeCall (typeK_check oC (typeK_run FB same oC li lb small ?_))
  refine codeAny_mono k fun r s2 z => ?_
  rcases r with e | (v | _ | _ | _) <;> exact z
end
end ZE
set_option Elab.async false
set_option linter.all false
set_option autoImplicit false
set_option maxRecDepth 100000
set_option maxHeartbeats 4000000
/-! repr of data; defs told that no repr is under way -/
namespace Z
open PySem PySem.Spec PyProof.Rows L2
section
variable {X : Cx} {pins : List (Addr × Obj)} {σ : L2.St} {H : Hp} {s : Shared}
def Shows (P : Program) (w : World) (h : Heap) (u : Value) (d : PyData) : Prop := ∃ as bs, Reads h u d as ∧ ReadAtMost h d.depth bs ∧ ReprK P w bs h d.depth u d.shown
def ShowsL (P : Program) (w : World) (h : Heap) (us : List Value) (ds : List PyData) : Prop := ∃ as bs, ReadsAll h us ds as ∧ ReadAtMost h (PyData.depthAll ds) bs ∧ ReprAllK P w bs h (PyData.depthAll ds) us (PyData.shownAll ds)
theorem Shows.leaf {P : Program} {w : World} {h : Heap} {u : Value} {d : PyData} (r : Reads h u d []) (i : ReprIs P w u d.shown) : Shows P w h u d := ⟨_, [], r, (fun _ z => nomatch z), .of_is i _ _ _⟩
theorem ShowsL.cons {P : Program} {w : World} {h : Heap} {u : Value} {us : List Value} {d : PyData} {ds : List PyData} (a : Shows P w h u d) (b : ShowsL P w h us ds) : ShowsL P w h (u :: us) (d :: ds) := by
  obtain ⟨a1, b1, r1, m1, k1⟩ := a
  obtain ⟨a2, b2, r2, m2, k2⟩ := b
  have e1 : d.depth ≤ PyData.depthAll (d :: ds) := by simp only [PyData.depthAll]; exact Nat.le_max_left _ _
  have e2 : PyData.depthAll ds ≤ PyData.depthAll (d :: ds) := by simp only [PyData.depthAll]; exact Nat.le_max_right _ _
  refine ⟨_, b1 ++ b2, .cons r1 r2, (m1.mono e1).append (m2.mono e2), ?_⟩
  simp only [PyData.shownAll]
  exact .cons ((k1.more fun c hc => List.mem_append_left _ hc).level_le e1) (k2.more_le (fun c hc => List.mem_append_right _ hc) e2)
mutual
theorem Da.shows (I : Inv X pins σ H s) : ∀ (d : PyData) (v : V) (u : Value), Da X.K H v d → RelV v u → d.showable = true → d.shown.length ≤ sizeLine → Shows X.prog X.w s.heap u d
  | .none, _, _, h, r, _, _ => by
    cases h; cases r
    exact .leaf .none (by simp only [PyData.shown]; exact ReprIs.none)
  | .bool b, _, _, h, r, _, _ => by
    cases h; cases r
    exact .leaf (.bool b) (by simp only [PyData.shown]; exact ReprIs.bool b)
  | .int i, _, _, h, r, g, _ => by
    cases h
    obtain ⟨t, rfl⟩ := r
    exact .leaf (.int i t) (by simp only [PyData.shown]; exact ReprIs.int t (by simpa [PyData.showable] using g))
  | .str x, _, _, h, r, _, z => by
    cases h
    obtain ⟨t, rfl⟩ := r
    exact .leaf (.str x t) (by simp only [PyData.shown]; exact ReprIs.str x t (by simpa only [PyData.shown] using z))
  | .list ds, _, _, h, r, g, z => by
    have z2 : (listText (PyData.shownAll ds)).length ≤ sizeLine := by simpa only [PyData.shown] using z
    cases h with
    | @lst a _ _ hs ha =>
      cases r
      obtain ⟨its, rv, ⟨o, n, ho, hc, _, hd⟩, _⟩ := I.list hs
      obtain ⟨as, bs, hr, hb, hk⟩ := DaL.shows I ds _ its ha rv (by simpa [PyData.showable] using g) fun t ht => Nat.le_trans (listText_mem_le ht) z2
      have R : Reads s.heap (.ref a) (.list ds) _ := .list ho hc hd hr
      have out := not_mem_of_deeper R (by simp only [PyData.depth]; omega) hb
      refine ⟨_, a :: bs, R, ReadAtMost.cons R (by simp only [PyData.depth]; omega) hb, ?_⟩
      simp only [PyData.depth, PyData.shown]
      cases its with
      | nil =>
        cases hr
        simp only [PyData.shownAll, listText_nil]
        exact ReprK.listEmpty ho hc hd
      | cons y l => exact ReprK.list ho hc hd out (by simpa using hk.length_eq) fun i q e => hk.item i q (by simpa using e)
  | .tuple ds, _, _, h, r, g, z => by
    have z2 : (tupleText (PyData.shownAll ds)).length ≤ sizeLine := by simpa only [PyData.shown] using z
    cases h with
    | @tup a _ _ hs ha =>
      cases r
      obtain ⟨its, rv, ⟨o, ho, hc, n, hd⟩, _⟩ := I.tuple hs
      obtain ⟨as, bs, hr, hb, hk⟩ := DaL.shows I ds _ its ha rv (by simpa [PyData.showable] using g) fun t ht => Nat.le_trans (tupleText_mem_le ht) z2
      have R : Reads s.heap (.ref a) (.tuple ds) _ := .tuple ho hc hd hr
      have out := not_mem_of_deeper R (by simp only [PyData.depth]; omega) hb
      refine ⟨_, a :: bs, R, ReadAtMost.cons R (by simp only [PyData.depth]; omega) hb, ?_⟩
      simp only [PyData.depth, PyData.shown]
      exact ReprK.tuple ho hc hd out hk
  | .dict kvs, _, _, h, r, _, _ => by
    cases h with
    | @dic a ha =>
      cases r
      obtain ⟨_, hm, vs, rk, o, es, ep, ho, hx, hd, _, pr, _⟩ := dk_of I.hok ha
      cases rk
      have ee : es.toList = [] := by
        cases q : es.toList with
        | nil => rfl
        | cons y l => rw [q] at pr; cases pr
      have R : Reads s.heap (.ref a) (.dict []) _ := .dict (kvs := []) ho hx.1 hd (by rw [ee]; exact .nil) (by rw [ee]; exact .nil)
      refine ⟨_, [a], R, ReadAtMost.cons (n := 0) R (Nat.zero_le _) (fun _ z => nomatch z), ?_⟩
      simp only [PyData.depth, PyData.depthKv, PyData.shown, PyData.shownKv]
      exact ReprK.dict (d := 0) ho hx.1 hd hm (fun z => nomatch z) (by rw [ee]; exact .nil)
theorem DaL.shows (I : Inv X pins σ H s) : ∀ (ds : List PyData) (vs : List V) (us : List Value), DaL X.K H vs ds → Vals vs us → PyData.showableAll ds = true → (∀ t ∈ PyData.shownAll ds, t.length ≤ sizeLine) → ShowsL X.prog X.w s.heap us ds
  | [], _, _, h, r, _, _ => by
    cases h; cases r
    exact ⟨_, [], .nil, (fun _ z => nomatch z), by simp only [PyData.shownAll]; exact .nil⟩
  | d :: ds, _, _, h, r, g, z => by
    cases h with
    | cons h1 h2 =>
      cases r with
      | cons r1 r2 =>
        have g2 : d.showable = true ∧ PyData.showableAll ds = true := by simpa [PyData.showableAll] using g
        exact .cons (Da.shows I d _ _ h1 r1 g2.1 (z _ (by simp only [PyData.shownAll]; exact List.mem_cons_self ..))) (DaL.shows I ds _ _ h2 r2 g2.2 fun t ht => z t (by simp only [PyData.shownAll]; exact List.mem_cons_of_mem _ ht))
end
theorem Da.by_ (I : Inv X pins σ H s) {a : Addr} {d : PyData} (h : Da X.K H (.ref a) d) (g : d.showable = true) (z : d.shown.length ≤ sizeLine) : ∃ T idr, ShowsBy X.prog X.w s.heap a d T idr := by
  cases h with
  | @lst _ _ ds hs ha =>
    have z2 : (listText (PyData.shownAll ds)).length ≤ sizeLine := by simpa only [PyData.shown] using z
    obtain ⟨its, rv, ⟨o, n, ho, hc, _, hd⟩, _⟩ := I.list hs
    obtain ⟨as, bs, hr, hb, hk⟩ := DaL.shows I ds _ its ha rv (by simpa [PyData.showable] using g) fun t ht => Nat.le_trans (listText_mem_le ht) z2
    have out := not_mem_of_deeper (.list ho hc hd hr) (by simp only [PyData.depth]; omega) hb
    refine ⟨"list", "list.__repr__", F.slot_list_repr.toG, F.slot_list_str, F.slot_list_format, fun t kt => ⟨o, kt _ _ ho, hc⟩, fun A E t Q g1 u1 k1 q => ?_⟩
    simp only [PyData.depth] at u1
    simp only [PyData.shown] at q
    cases its with
    | nil =>
      cases hr
      simp only [PyData.shownAll, listText_nil] at q
      exact call_list_repr_empty ⟨o, k1 _ _ ho, hc⟩ (k1 _ _ ho) hd (q t.heap _ _ fun _ _ e => e)
    | cons y l => exact call_list_reprK ho hc hd out (by simpa using hk.length_eq) (fun i q e => hk.item i q (by simpa using e)) g1 (fun b _ => Clear.nil b) u1 k1 q z2
  | @tup _ _ ds hs ha =>
    have z2 : (tupleText (PyData.shownAll ds)).length ≤ sizeLine := by simpa only [PyData.shown] using z
    obtain ⟨its, rv, ⟨o, ho, hc, n, hd⟩, _⟩ := I.tuple hs
    obtain ⟨as, bs, hr, hb, hk⟩ := DaL.shows I ds _ its ha rv (by simpa [PyData.showable] using g) fun t ht => Nat.le_trans (tupleText_mem_le ht) z2
    have out := not_mem_of_deeper (.tuple ho hc hd hr) (by simp only [PyData.depth]; omega) hb
    refine ⟨"tuple", "tuple.__repr__", F.slot_tuple_repr, F.slot_tuple_str, F.slot_tuple_format, fun t kt => ⟨o, kt _ _ ho, hc⟩, fun A E t Q g1 u1 k1 q => ?_⟩
    simp only [PyData.depth] at u1
    simp only [PyData.shown] at q
    exact call_tuple_reprK ho hc hd out hk g1 (fun b _ => Clear.nil b) u1 k1 q z2
  | dic ha =>
    obtain ⟨_, hm, vs, rk, o, es, ep, ho, hx, hd, _, pr, _⟩ := dk_of I.hok ha
    cases rk
    have ee : es.toList = [] := by
      cases q : es.toList with
      | nil => rfl
      | cons y l => rw [q] at pr; cases pr
    refine ⟨"dict", "dict.__repr__", F.slot_dict_repr, F.slot_dict_str, F.slot_dict_format, fun t kt => ⟨o, kt _ _ ho, hx.1⟩, fun A E t Q g1 u1 k1 q => ?_⟩
    simp only [PyData.depth, PyData.depthKv] at u1
    simp only [PyData.shown, PyData.shownKv] at q
    exact call_dict_reprK (as := []) (d := 0) (ps := []) ho hx.1 hd hm (fun z => nomatch z) (by rw [ee]; exact .nil) g1 (fun b _ => Clear.nil b) u1 k1 q
end
/-- repr(data) -/
def rRepr (K : PySem.W.Frag) : List V → Hp → VK → Prop := fun xs H Q => ∃ v d, xs = [v] ∧ Da K H v d ∧ d.showable = true ∧ d.shown.length ≤ sizeLine ∧ d.depth ≤ 64 ∧ Q (.str d.shown) H
theorem call_reprD {X : Cx} (g0 : X.A.guards = some []) (u0 : X.A.units + 80 < cLine) : CallR X (.builtin "repr") (rRepr X.K) := by
  intro pins s σ H xs us Q I r h
  obtain ⟨v, d, rfl, hd, g, z, dp, q⟩ := h
  cases r with
  | @cons _ u _ _ rv rr =>
    cases rr
    cases v with
    | ref a =>
      cases rv
      obtain ⟨T, idr, S⟩ := hd.by_ I g z
      exact call_repr_slot (by omega) (S.typeIs s fun _ _ e => e) S.slotRepr (S.call X.A.in1 _ s _ g0 (by show X.A.units + 1 + d.depth < cLine; omega) (fun _ _ e => e) fun h' u tk hk => ⟨_, _, rfl, ⟨.str _, H, I.kept hk, ⟨_, rfl⟩, q⟩⟩)
    | non =>
      cases hd; cases rv
      exact P.repr_of_none ⟨.str _, H, I.tok _, ⟨_, rfl⟩, by simpa only [PyData.shown] using q⟩
    | bl b =>
      cases hd; cases rv
      exact P.repr_of_bool ⟨.str _, H, I.tok _, ⟨_, rfl⟩, by simpa only [PyData.shown] using q⟩
    | int i =>
      cases hd
      obtain ⟨t, rfl⟩ := rv
      exact P.repr_of_int (by simpa [PyData.showable] using g) ⟨.str _, H, I.tok _, ⟨_, rfl⟩, by simpa only [PyData.shown] using q⟩
    | str x =>
      cases hd
      obtain ⟨t, rfl⟩ := rv
      exact P.repr_of_str ⟨.str _, H, I.tok _, ⟨_, rfl⟩, by simpa only [PyData.shown] using q⟩ (by simpa only [PyData.shown] using z)
    | _ => cases hd
end Z
set_option Elab.async false
set_option linter.all false
set_option autoImplicit false
set_option maxRecDepth 100000
set_option maxHeartbeats 4000000
/-! defs told that no repr is under way (Still A) -/
namespace Z
open PySem PySem.Spec PyProof.Rows L2
abbrev Still (A : Around) : Prop := A.guards = some []
structure FnG (P : Program) (w : World) (K : PySem.W.Frag) (mg : Str → Option Value) (base : Heap) (CX : CXT) (k : Nat) (f : Addr) (fd : FuncData) (ps : List Str) (sp : Sp) : Prop where
  len : ∀ vs H Q E, sp vs H Q E → vs.length = ps.length
  run : ∀ (A : Around) (out : List Env) (s : Shared) (H : Hp) (ar : Args) (us : List Value) (vs : List V) (Q : VK) (E : XK), Room k A → Still A → Env0 P w K mg base A out s H → BindsTo s fd ar (ps.zip us) → Vals vs us → sp vs H Q E →
    codeAny (model P w) A (.call (.ref f) ar) (CR CX out P w H s Q E) s
section
variable {P : Program} {w : World} {K : PySem.W.Frag} {mg : Str → Option Value} {base : Heap} {CX : CXT} {k : Nat} {f : Addr} {fd : FuncData} {ps : List Str} {sp : Sp}
theorem FnG.of (F : FnOk P w K mg base CX k f fd ps sp) : FnG P w K mg base CX k f fd ps sp := ⟨F.len, fun A out s H ar us vs Q E hr _ e b r q => F.run A out s H ar us vs Q E hr e b r q⟩
theorem FnG.mono {j : Nat} (F : FnG P w K mg base CX j f fd ps sp) (h : j ≤ k) : FnG P w K mg base CX k f fd ps sp := ⟨F.len, fun A out s H ar us vs Q E hr => F.run A out s H ar us vs Q E (hr.mono h)⟩
theorem fnG_of {N : List Str} {name qual : Str} {params : Arguments} {body : List Stmt} {scope : Scope} {dV kV doc pm cdv ct oc : Value} {an od : Option Addr} {osl : Array (Option Value)}
    (l0 : K.lookup f = some ⟨oc, od, .func (PySem.W.fnOf name qual params body scope dV kV doc pm an cdv ct), osl⟩) (c0 : PySem.W.codeIn K cdv qual = true) (S0 : FnScope N ps scope) (n0 : ∀ vs H Q E, sp vs H Q E → vs.length = ps.length)
    (b0 : ∀ (A : Around) (out : List Env) (s : Shared) (H : Hp) (vs : List V) (Q : VK) (E : XK), Room k (A.deeper (envOfC qual scope s.heap.objs.size f cdv)) → Still A → sp vs H Q E →
      ∃ t, PSs (cxOf CX P w K mg base N qual scope f cdv A out s H E) body t ∧ t { nx := fun _ H' => Q .non H', rt := Q } (start N vs) H) :
    FnG P w K mg base CX (k + 1) f (PySem.W.fnOf name qual params body scope dV kV doc pm an cdv ct) ps sp := by
  refine ⟨n0, fun A out s H ar us vs Q E hr st ee bb rr qq => ?_⟩
  have len0 := n0 _ _ _ _ qq
  have K0 : K.In s.heap := ee.mod.kin.keeps fun c o z => (ee.bs c o z).1
  have lim0 : s.heap.NoLimit := ee.mod.nolimit.keeps fun c o z => (ee.bs c o z).1
  have kinds : ∀ y ∈ ps.zip us, scope.names.lookup y.1 = some .local ∨ (scope.names.lookup y.1 = some .cell ∧ ((cellsFrom (s.heap.objs.size + 1) scope.names []).lookup y.1).isSome = true) := by
    rintro ⟨n, v⟩ hy
    exact (S0.par n (List.of_mem_zip hy).1).imp id fun z => ⟨z, PySem.W.cellsFrom_some _ _ _ (.inl z)⟩
  refine codeAny_call_function hr.depth (K0 _ _ l0) rfl S0.co S0.gen rfl (PySem.W.codeRec_of K0 c0) (bb _ _ _ _ ?_)
  refine wpAny_newFunctionEnv_cells S0.kind kinds fun env e1 s1 x1 => ?_
  subst e1
  refine ⟨lim0.keeps x1.toInCall.keep, codeAny_func ?_⟩
  obtain ⟨t, ht, hq⟩ := b0 A out s H vs Q E (hr.deeper _) st qq
  have I0 : Inv (cxOf CX P w K mg base N qual scope f cdv A out s H E) [] (start N vs) H s1 := inv_start S0 hr.hd ee len0 rr x1
  refine wpAny_mono (ht.run [] s1 (start N vs) H _ I0 hq) (fun fl s2 h2 => ?_) fun e s2 h2 => h2
  have done_ : ∀ {σ2 : L2.St} {H2 : Hp} {v : V} {u : Value}, Inv (cxOf CX P w K mg base N qual scope f cdv A out s H E) [] σ2 H2 s2 → RelV v u → Q v H2 → CE out P w H s Q u s2 :=
    fun {σ2 H2 v u} J r2 q2 => ⟨v, H2, J.os, J.bare, J.base, J.hok, r2, q2⟩
  cases fl with
  | ret u =>
    obtain ⟨v, σ2, H2, J, r2, q2⟩ := h2
    exact done_ J r2 q2
  | next =>
    obtain ⟨σ2, H2, J, q2⟩ := h2
    exact done_ (v := V.non) (u := Value.none) J rfl q2
  | brk => exact h2.elim fun _ z => z.elim fun _ z => False.elim z.2
  | cont => exact h2.elim fun _ z => z.elim fun _ z => False.elim z.2
end
section
variable {P : Program} {w : World} {K : PySem.W.Frag} {mg : Str → Option Value} {base : Heap} {x qual : Str} {params : Arguments} {body : List Stmt} {scope : Scope} {dvs : List V} {kws : List (Str × V)} {f : Addr} {fd : FuncData}
theorem okG {CX : CXT} {N ps : List Str} {k : Nat} {sp : Sp} (F : FunD K x qual params body scope dvs kws f fd) (S : FnScope N ps scope) (len : ∀ vs H Q E, sp vs H Q E → vs.length = ps.length)
    (b0 : ∀ (cdv : Value) (A : Around) (out : List Env) (s : Shared) (H : Hp) (vs : List V) (Q : VK) (E : XK), Room k (A.deeper (envOfC qual scope s.heap.objs.size f cdv)) → Still A → sp vs H Q E →
      ∃ t, PSs (cxOf CX P w K mg base N qual scope f cdv A out s H E) body t ∧ t { nx := fun _ H' => Q .non H', rt := Q } (start N vs) H) : FnG P w K mg base CX (k + 1) f fd ps sp := by
  obtain ⟨oc, od, dV, kV, doc, pm, an, cdv, ct, osl, rfl, l0, c0, _, _⟩ := F.ex
  exact fnG_of l0 c0 S len fun A out s H vs Q E hr st hs => b0 cdv A out s H vs Q E hr st hs
end
structure KnG (P : Program) (w : World) (K : PySem.W.Frag) (mg : Str → Option Value) (base : Heap) (CX : CXT) (x : Str) (k : Nat) (ps : List Str) (dvs : List V) (sp : Sp) : Prop where
  ex : ∃ f fd ds, FnG P w K mg base CX k f fd ps sp ∧ mg x = some (.ref f) ∧ PySem.W.keepIn K (.ref f) = true ∧ Binds K fd ps ds ∧ Vals dvs ds
theorem Kn.g {P : Program} {w : World} {K : PySem.W.Frag} {mg : Str → Option Value} {base : Heap} {CX : CXT} {x : Str} {k : Nat} {ps : List Str} {dvs : List V} {sp : Sp} (F : Kn P w K mg base CX x k ps dvs sp) : KnG P w K mg base CX x k ps dvs sp := by
  obtain ⟨f, fd, ds, a, b, c, d, e⟩ := F.ex
  exact ⟨f, fd, ds, .of a, b, c, d, e⟩
section
variable {X : Cx} {CX : CXT} {x : Str} {k j : Nat} {f : Addr} {fd : FuncData} {ps : List Str} {dvs : List V} {ds : List Value} {sp : Sp} {e : Expr} {es : List Expr} {t : TA} {p pos : Pos} {E : XK}
theorem run_fnG {pins : List (Addr × Obj)} {σ : L2.St} {H : Hp} {s : Shared} {Q : VK} {us : List Value} {vs : List V} (F : FnG X.prog X.w X.K X.mg X.base CX k f fd ps sp) (hr : Room k X.A) (st : Still X.A) (hb : Binds X.K fd ps ds) (hd : Vals dvs ds) (hx : Passes CX X E)
    (I : Inv X pins σ H s) (r : Vals vs us) (h : sp (vs ++ dvs) H Q E) : wpAny (model X.prog X.w) X.A (call (.ref f) us) (EP X pins σ Q) X.xe s := by
  have rr : Vals (vs ++ dvs) (us ++ ds) := r.append hd
  have ll : (us ++ ds).length = ps.length := by rw [← rr.length]; exact F.len _ _ _ _ h
  refine wpAny_call (codeAny_mono (F.run X.A X.stack s H ⟨us, []⟩ (us ++ ds) (vs ++ dvs) Q E hr st I.env0 (hb s us I.kIn ll) rr h) fun r s2 q2 => ?_)
  match r, q2 with
  | .error e, q2 => exact hx pins σ H s e s2 I q2
  | .ok (.ret u), q2 => exact I.after q2
  | .ok .next, q2 => exact False.elim q2
  | .ok .brk, q2 => exact False.elim q2
  | .ok .cont, q2 => exact False.elim q2
theorem pe_ownG (F : KnG X.prog X.w X.K X.mg X.base CX x k ps dvs sp) (hr : Room j X.A) (st : Still X.A) (hkj : k ≤ j) (hx : Passes CX X E) (ha : PA X (e :: es) t) (hg : Gl X x := by rfl) (hdb : (x == ("__debug__" : Str)) = false := by decide)
    (he : starEach (e :: es) X.env = (false, eval e X.env) :: starEach es X.env := by rfl) (hpl : (backTo pos (starEach es X.env)).any (·.1) = false := by rfl) :
    PE X (.Call (.Name x p) (e :: es) [] pos) (tCall sp dvs E t) := by
  obtain ⟨f, fd, ds, F1, m, kp, b, vd⟩ := F.ex
  refine ⟨fun pins s σ H Q I h => wpAny_Call_Name_kw (ld_glob I hg m ?_ hdb)⟩
  exact PySem.W.callWith_K (h₀ := X.base) I.ok.mod.kin kp (thn (ha.run pos pins s σ H _ I h) fun us s1 ⟨vs, H1, I1, r1, q1⟩ => ⟨I1.kIn, run_fnG F1 (hr.mono hkj) st b vd hx I1 r1 q1⟩) he hpl
end
end Z
set_option Elab.async false
set_option linter.all false
set_option autoImplicit false
set_option maxRecDepth 100000
set_option maxHeartbeats 4000000
/-! the law's own call, its promise told that no repr is under way -/
namespace Z
open PySem PySem.Spec PyProof.Rows L2
section
variable {P : Program} {w : World} {K : PySem.W.Frag} {mg mb : Str → Option Value} {CX : CXT} {k : Nat} {fa a : Addr} {fd : FuncData} {x : Str} {sp : Sp} {s : Shared} {us : List Value} {ns : List Int}
theorem law_at {H : Hp} (KX : K.In s.heap) (n1 : s.heap.Ns mainGlobals mg) (n2 : s.heap.Ns builtinsNs mb) (n3 : ∀ x : Str, x ≠ "__name__" → mb x = bootBuiltins x) (lim : s.heap.NoLimit) (gs : s.gens = #[])
    (oa : s.heap.get? a = some { cls := .type "list", data := .seq us.toArray }) (hr : Room k callerA)
    (F : ∀ base : Heap, K.In base → base.Ns mainGlobals mg → FnG P w K mg base CX k fa fd [x] sp) (bd : ∀ (t : Shared) (u : Value), BindsTo t fd ⟨[u], []⟩ [(x, u)])
    (q0 : sp [.ref a] H (fun v _ => v = .bl true) fun _ _ _ => False) (nx : ∀ e s2, CX [] H s (fun _ _ _ => False) e s2 → False)
    (ol : Only H) (ok : HOk P w H s.heap) (on : ∀ b, H b ≠ none → b = a) (nk : H a ≠ none → K.lookup a = none) :
    codeAny (model P w) callerA (.call (.ref fa) ⟨[.ref a], []⟩) (fun r s2 => r = .ok (.ret (.bool true)) ∧ OldK s.heap s2.heap ∧ s2.os = s.os ∧ AllBare s2.gens) s := by
  have free_of : ∀ {b : Addr} {o : Obj}, s.heap.get? b = some o → (∀ its n, o.data ≠ .seq its n) → H b = none := by
    intro b o e ne
    refine Classical.byContradiction fun z => ?_
    have ea := on b z
    subst ea
    rw [oa] at e
    cases e
    exact ne _ _ rfl
  have ns_of : ∀ {b : Addr} {m : Str → Option Value}, s.heap.Ns b m → (hidT s.heap H).Ns b m := by
    rintro b m ⟨o, es, ep, e, d, r⟩
    exact ⟨o, es, ep, hidT_get e (free_of e fun its n z => by rw [d] at z; cases z), d, r⟩
  have kin : K.In (hidT s.heap H) := by
    intro b o e
    refine hidT_get (KX b o e) (Classical.byContradiction fun z => ?_)
    have ea := on b z
    subst ea
    rw [nk z] at e
    cases e
  obtain ⟨mc, c1, c2⟩ := lim
  have md : Mod K mg (hidT s.heap H) := ⟨kin, ns_of n1, ⟨mb, ns_of n2, n3⟩, mc, ns_of c1, c2⟩
  have ev : Env0 P w K mg (hidT s.heap H) callerA [] s H := { frames := rfl, mod := md, bs := fun b o e => of_hidT e, bsz := Nat.le_of_eq (hidT_size _ _), funs := trivial, frf := (fun b z => absurd (show b ∈ ([] : List Addr) from z) (by simp)), hok := ok, bare := .of_eq gs }
  refine codeAny_mono ((F _ kin (ns_of n1)).run callerA [] s H ⟨[.ref a], []⟩ [.ref a] [.ref a] _ _ hr rfl ev (bd s (.ref a)) (.cons rfl .nil) q0) fun r s2 z => ?_
  match r, z with
  | .error e, z => exact (nx e s2 z).elim
  | .ok .next, z => exact False.elim z
  | .ok .brk, z => exact False.elim z
  | .ok .cont, z => exact False.elim z
  | .ok (.ret u), z =>
    obtain ⟨v, H2, os2, br2, un2, ok2, rv, (rfl : v = .bl true)⟩ := z
    obtain rfl : u = Value.bool true := rv
    refine ⟨rfl, OldK.of_keep fun b o e => ?_, os2, br2⟩
    rcases ol b with z | ⟨ob, xs, z⟩
    · exact un2.keep b o e z (fun y => absurd (show b ∈ ([] : List Addr) from y) (by simp)) (by simp)
    · obtain ⟨e1, _⟩ := ok b _ z
      obtain ⟨e2, _⟩ := ok2 b _ (un2.frzs b ob _ z)
      rw [e] at e1
      cases e1
      exact e2
theorem law_callG (KX : K.In s.heap) (n1 : s.heap.Ns mainGlobals mg) (n2 : s.heap.Ns builtinsNs mb) (n3 : ∀ x : Str, x ≠ "__name__" → mb x = bootBuiltins x) (lim : s.heap.NoLimit) (gs : s.gens = #[])
    (oa : s.heap.get? a = some { cls := .type "list", data := .seq us.toArray }) (ia : IntsAre us ns) (sz : ns.length ≤ sizeLine) (hr : Room k callerA)
    (F : ∀ base : Heap, K.In base → base.Ns mainGlobals mg → FnG P w K mg base CX k fa fd [x] sp) (bd : ∀ (t : Shared) (u : Value), BindsTo t fd ⟨[u], []⟩ [(x, u)])
    (q0 : ∀ H : Hp, Only H → SqL K H a (ns.map V.int) → sp [.ref a] H (fun v _ => v = .bl true) fun _ _ _ => False) (nx : ∀ H e s2, CX [] H s (fun _ _ _ => False) e s2 → False) :
    codeAny (model P w) callerA (.call (.ref fa) ⟨[.ref a], []⟩) (fun r s2 => r = .ok (.ret (.bool true)) ∧ OldK s.heap s2.heap ∧ s2.os = s.os ∧ AllBare s2.gens) s := by
  have rv := vals_ints ia
  have ll := ia.length
  cases e : K.lookup a with
  | some o =>
    have e2 := KX a o e
    rw [oa] at e2
    cases e2
    have S : SqL K (fun _ => none) a (ns.map V.int) := .inr ⟨_, us.toArray, _, e, rfl, rfl, rfl, by rw [List.size_toArray, ll]; exact sz, by simpa using rv⟩
    exact law_at KX n1 n2 n3 lim gs oa hr F bd (q0 _ (fun _ => .inl rfl) S) (nx _) (fun _ => .inl rfl) (fun b u z => nomatch z) (fun b z => absurd rfl z) fun z => absurd rfl z
  | none =>
    let o0 : Obj := { cls := .type "list", data := .seq us.toArray }
    let H : Hp := fun b => if b = a then some (.frz o0 (.lst (ns.map V.int))) else none
    have at_ : H a = some (.frz o0 (.lst (ns.map V.int))) := if_pos rfl
    have off : ∀ b, b ≠ a → H b = none := fun b z => if_neg z
    have ol : Only H := fun b => if z : b = a then .inr ⟨o0, ns.map V.int, by rw [z]; exact at_⟩ else .inl (off b z)
    refine law_at (H := H) KX n1 n2 n3 lim gs oa hr F bd (q0 _ ol (.inl (.inr ⟨o0, at_⟩))) (nx _) ol (fun b u z => ?_) (fun b z => Classical.byContradiction fun y => z (off b y)) fun _ => e
    have eb : b = a := Classical.byContradiction fun y => by rw [off b y] at z; cases z
    subst eb
    rw [at_] at z
    cases z
    exact ⟨oa, by rw [List.length_map]; exact sz, us, _, rv, oa⟩
end
theorem walk_G {l : PySem.W.OpenLaw} {n k : Nat} {q : Program} {loose : List Str} {XP : (Str → Option Value) → Heap → Prop} {YP : World → Heap → Prop} {d : DefRec} {CX : CXT} {x : Str}
    (m1 : l.most = some n) (m2 : n ≤ sizeLine) (nd : d.params.defaults = []) (hr : Room k callerA)
    (F : ∀ (w : World) (mg : Str → Option Value) (fa : Addr) (h : Heap), YP w h → h.Ns mainGlobals mg → mg d.name = some (.ref fa) →
      ∃ (K : PySem.W.Frag) (fd : FuncData) (sp : Sp), K.In h ∧ (∀ (s : Shared) (u : Value), BindsTo s fd ⟨[u], []⟩ [(x, u)]) ∧
        (∀ (H : Hp) (a : Addr) (ns : List Int), ns.length ≤ n → Only H → SqL K H a (ns.map V.int) → sp [.ref a] H (fun v _ => v = .bl true) fun _ _ _ => False) ∧
        ∀ base : Heap, K.In base → base.Ns mainGlobals mg → FnG l.prog w K mg base CX k fa fd [x] sp)
    (nx : ∀ (H : Hp) (s : Shared) (e : Value) (s2 : Shared), CX [] H s (fun _ _ _ => False) e s2 → False) :
    PySem.W.WalkO q loose XP YP l.row.toRowW d [] (fun f vs => PySem.call f vs) := by
  refine Att.attach_call m1 nd fun w s0 s1 mg mb fa o pm cd doc a us ns G Y _ _ _ hmg oa ia sz gs => ?_
  obtain ⟨K, fd, sp, KX, bd, q0, F1⟩ := F w mg fa _ Y G.T.g hmg
  exact law_callG KX G.T.g G.T.b G.T.builtins G.T.nolimit gs oa ia (Nat.le_trans sz m2) hr F1 bd (fun H ol S => q0 H a ns sz ol S) fun H e s2 => nx H s1 e s2
end Z
set_option Elab.async false
set_option linter.all false
set_option autoImplicit false
set_option maxRecDepth 100000
set_option maxHeartbeats 4000000
/-! errors of own classes as values -/
namespace Z
open PySem PySem.Spec PyProof.Rows L2
/-- a built-in error class over whose mro own classes stand -/
structure BaseX (B idN idI : String) (tail : List Value) : Prop where
  fb : ExcBaseFacts B idN idI tail
  sf : StoreFacts B tail "object.__setattr__" "object"
abbrev mroX (B : String) : List Value := [.type B, .type "Exception", .type "BaseException", .type "object"]
theorem base_V : BaseX "ValueError" "ValueError.__new__" "ValueError.__init__" (mroX "ValueError") := ⟨F.excBase_ValueError, F.store_ValueError⟩
theorem base_L : BaseX "LookupError" "LookupError.__new__" "LookupError.__init__" (mroX "LookupError") := ⟨F.excBase_LookupError, F.store_LookupError⟩
theorem base_A : BaseX "ArithmeticError" "ArithmeticError.__new__" "ArithmeticError.__init__" (mroX "ArithmeticError") := ⟨F.excBase_ArithmeticError, F.store_ArithmeticError⟩
structure ErrC (K : PySem.W.Frag) (C : Addr) : Prop where
  bs : ∃ B idN idI tail, BaseX B idN idI tail ∧ PySem.W.excInitIn K C tail idN = true ∧ PySem.W.excOver K C tail = true
  sa : PySem.W.findIn K (.ref C) "__setattr__" = some (some (.builtin "object.__setattr__"))
  kp : PySem.W.keepIn K (.ref C) = true
  ec : ExcC K C
/-- at a: an error of the class at C, its fields fs -/
def Err (H : Hp) (a C : Addr) (fs : List (Str × V)) : Prop := (fs = [] ∧ H a = some (exo a C none)) ∨ ∃ dx, H a = some (exo a C (some dx)) ∧ H dx = some (exd dx fs)
theorem Err.mono {H H' : Hp} {a C : Addr} {fs : List (Str × V)} (e : Same H H') (h : Err H a C fs) : Err H' a C fs := by
  rcases h with ⟨z, h⟩ | ⟨dx, h1, h2⟩
  · exact .inl ⟨z, e _ _ h⟩
  · exact .inr ⟨dx, e _ _ h1, e _ _ h2⟩
theorem Err.monoT {H H' : Hp} {a C : Addr} {fs : List (Str × V)} (e : SameT H H') (h : Err H a C fs) : Err H' a C fs := by
  have n1 : ∀ d xs, exo a C d ≠ HO.lst xs := fun d xs z => by
    have y : HO.ext _ = HO.lst xs := z
    cases y
  have n2 : ∀ dx xs, exd dx fs ≠ HO.lst xs := fun d xs z => by
    have y : HO.ext _ = HO.lst xs := z
    cases y
  rcases h with ⟨z, h⟩ | ⟨dx, h1, h2⟩
  · exact .inl ⟨z, e _ _ (n1 _) h⟩
  · exact .inr ⟨dx, e _ _ (n1 _) h1, e _ _ (n2 _) h2⟩
section
variable {X : Cx} {pins : List (Addr × Obj)} {σ : L2.St} {H : Hp} {s : Shared} {a C : Addr} {fs : List (Str × V)}
theorem Err.inst (I : Inv X pins σ H s) (h : Err H a C fs) : ∃ ox od, PySem.W.InstAt s.heap a ox C od := by
  rcases h with ⟨_, h⟩ | ⟨dx, h1, h2⟩
  · obtain ⟨t, e⟩ := exo_at I.hok h
    exact ⟨_, none, e, rfl, rfl, trivial⟩
  · obtain ⟨t, e⟩ := exo_at I.hok h1
    obtain ⟨mA, ⟨o, _, _, ho, _⟩, _⟩ := exd_at I.hok h2
    exact ⟨_, some o, e, rfl, rfl, ho⟩
/-- isinstance(error, class) -/
def rIsX (K : PySem.W.Frag) : List V → Hp → VK → Prop := fun xs H Q => ∃ a C fs c cv b, xs = [.ref a, c] ∧ Err H a C fs ∧ ErrC K C ∧ (∀ u, RelV c u → u = cv) ∧ PySem.W.kitOne K (.ref C) cv = some b ∧ Q (.bl b) H
theorem call_isX : CallR X (.builtin "isinstance") (rIsX X.K) := by
  intro pins s σ H xs us Q I r h
  obtain ⟨a, C, fs, c, cv, b, rfl, he, T, hc, e, q⟩ := h
  cases r with
  | cons r1 r2 =>
    cases r2 with
    | cons r3 r4 =>
      cases r4
      cases r1
      obtain rfl := hc _ r3
      obtain ⟨ox, od, J⟩ := he.inst I
      have hc0 : (PySem.W.clsIn X.K C).isSome = true := by
        obtain ⟨cd, z, _⟩ := PySem.W.any_some T.ec.hd
        rw [z]; rfl
      exact PySem.W.kia_one (PySem.W.kitx_exc hc0 T.ec.hg T.ec.hk T.ec.hs T.ec.ha T.ec.hn T.ec.ht T.ec.hm) I.kIn J e (fun z => nomatch z) fun tk => ⟨.bl b, H, I.kept (t' := tk) fun _ _ z => z, rfl, q⟩
/-- error.field -/
def tErrF (K : PySem.W.Frag) (f : Str) (te : TE) : TE := fun σ H Q => te σ H fun x H1 => ∃ a C fs v, x = .ref a ∧ Err H1 a C fs ∧ ErrC K C ∧ PySem.W.findIn K (.ref C) f = some none ∧ fs.lookup f = some v ∧ Q v H1
theorem pe_errF {f : Str} {e : Expr} {te : TE} {pos : Pos} (he : PE X e te) (hb : attributeBase e f X.env (eval e X.env) = eval e X.env := by rfl) : PE X (.Attribute e f pos) (tErrF X.K f te) := by
  refine ⟨fun pins s σ H Q I h => ?_⟩
  refine attr_of hb (thn (he.run pins s σ H _ I h) fun u s1 z => ?_)
  obtain ⟨x, H1, I1, rx, a, C, fs, v, rfl, er, T, no, lk, q⟩ := z
  obtain rfl : u = Value.ref a := rx
  rcases er with ⟨rfl, _⟩ | ⟨dx, h1, h2⟩
  · cases lk
  · obtain ⟨t, eo⟩ := exo_at I1.hok h1
    obtain ⟨mA, ns, rel⟩ := exd_at I1.hok h2
    obtain ⟨od, ho, hl⟩ := lookIn_ns ns
    obtain ⟨u, hu, ru⟩ := RelO.some_of (v := v) (o := mA f) (by rw [← lk]; exact rel f)
    have J : PySem.W.InstAt s1.heap a { cls := .ref C, dict := some dx, data := .fields #[.ref t, .none, .none, .none, .bool false, .none] } C (some od) := ⟨eo, rfl, rfl, ho⟩
    exact HandSPX.exc_get I1.kIn J T.ec.hg T.ec.hk T.ec.hs (PySem.W.findObj_own T.ec.hd no rfl (by rw [hl, hu])) (handed_of ru) ⟨v, H1, I1.tok _, ru, q⟩
/-- the first field of an error is stored -/
theorem err_store {f : Str} {y : V} {u : Value} {Q : Unit → Shared → Prop} {E : Value → Shared → Prop} {A : Around} (T : ErrC X.K C) (I : Inv X pins σ H s) (e : H a = some (exo a C none)) (no : PySem.W.findIn X.K (.ref C) f = some none) (ry : RelV y u)
    (k : ∀ dx s2, H dx = none → dx ≠ a → Inv X pins σ (upd (upd H dx (exd dx [(f, y)])) a (exo a C (some dx))) s2 → Q () s2) : wpAny (model X.prog X.w) A (setAttr (.ref a) f u) Q E s := by
  obtain ⟨B, idN, idI, tail, bx, _, ov⟩ := T.bs
  obtain ⟨t1, ho⟩ := exo_at I.hok e
  obtain ⟨cd, hc, hd⟩ := PySem.W.any_some T.ec.hd
  obtain ⟨hp, g, d, t, os⟩ := s
  have J : PySem.W.InstAt hp a { cls := .ref C, dict := none, data := .fields #[.ref t1, .none, .none, .none, .bool false, .none] } C none := ⟨ho, rfl, rfl, trivial⟩
  have tk0 : PySem.W.takerIn X.K C f = some none := by unfold PySem.W.takerIn; rw [no]; rfl
  refine PySem.W.set_plain I.kIn J T.sa (PySem.W.osa_openX (od := none) bx.sf I.kIn J ov tk0 fun b => ?_)
  refine wpAny_bind (wpAny_pure (wpAny_bind (PySem.W.instanceDict_exc (C := C) (t := t1) (c2 := .none) ho (PySem.W.looks_clsIn I.kIn hc) hd ?_)))
  show wpAny _ _ (Builtin.ObjectAttr.storeInDict hp.objs.size (.str f t) f u) _ _ _
  have lt : a < hp.objs.size := Heap.lt_size ho
  have ne : hp.objs.size ≠ a := Nat.ne_of_gt lt
  have ho1 : (hp.push (PySem.W.dictOf [] 0)).get? a = some { cls := .ref C, dict := none, data := .fields #[.ref t1, .none, .none, .none, .bool false, .none] } := Heap.get?_push_of_some _ ho
  have dn : ((hp.push (PySem.W.dictOf [] 0)).update a fun o => { o with dict := some hp.objs.size }).Ns hp.objs.size (fun _ => none) :=
    ⟨_, #[], _, (Heap.get?_update_ne _ _ _ _ ne).trans (Heap.get?_push_at rfl rfl), rfl, fun _ z => absurd z (by simp), fun _ => rfl⟩
  refine HandSPX.store_in_new dn fun h2 tk2 ns2 sb2 => ?_
  have fresh : H hp.objs.size = none := I.hok.fresh (Nat.le_refl _)
  have away : ∀ {c : Addr}, H c = none → c ≠ a := fun {c} z y => by rw [y, e] at z; cases z
  have old : ∀ {c : Addr} {o : Obj}, hp.get? c = some o → c ≠ hp.objs.size := fun {c o} z => Nat.ne_of_lt (Heap.lt_size z)
  have kept : ∀ c o, c ≠ a → hp.get? c = some o → h2.get? c = some o := fun c o y z => by
    rw [sb2.2 c (old z), Heap.get?_update_ne _ _ _ _ y]
    exact Heap.get?_push_of_some _ z
  have now_a : h2.get? a = some { cls := .ref C, dict := some hp.objs.size, data := .fields #[.ref t1, .none, .none, .none, .bool false, .none] } := by
    rw [sb2.2 a (Ne.symm ne)]
    exact Heap.get?_update_self _ ho1 rfl
  refine k hp.objs.size _ fresh ne (I.un (t' := tk2) { keep := fun c o z n _ _ => kept c o (away n) z, slot := fun c o z n _ _ => ⟨o.slots, kept c o (away n) z⟩, free := fun c o z n _ => ?_, there := fun c o z _ => ?_, tups := fun c xs z => ?_, frzs := fun c o v z => ?_, tbls := fun c ps z => ?_ } fun c o z => ?_)
  · rw [upd_ne (away n), upd_ne (old z)]; exact n
  · by_cases y : c = a
    · exact ⟨_, by rw [y]; exact now_a⟩
    · exact ⟨o, kept c o y z⟩
  · rw [upd_ne (at_ne e z exo_tup), upd_ne (ne_of_none z fresh)]; exact z
  · rw [upd_ne (at_ne e z exo_frz), upd_ne (ne_of_none z fresh)]; exact z
  · exact ⟨#[], by rw [upd_ne (at_ne e z exo_tbl), upd_ne (ne_of_none z fresh), z]; simp⟩
  · by_cases y : c = a
    · subst y
      rw [upd_same] at z
      cases z
      exact exo_ok now_a
    rw [upd_ne y] at z
    by_cases y2 : c = hp.objs.size
    · subst y2
      rw [upd_same] at z
      cases z
      exact exd_ok ns2 (relO_put (fs := []) ry fun _ => True.intro)
    rw [upd_ne y2] at z
    refine (I.hok c o z).stay (fun b v hb q => kept b v ?_ q) (fun b q => by rw [upd_ne (at_ne e q exo_own), upd_ne (ne_of_none q fresh)]; exact q) fun b xs q => by rw [upd_ne (at_ne e q exo_tup), upd_ne (ne_of_none q fresh)]; exact q
    rcases hb with hb | hb
    · rw [hb]; exact y
    · exact at_ne e hb exo_own
/-- self.f = e in such a class's __init__ -/
def tErrSet (K : PySem.W.Frag) (f : Str) (to te : TE) : TS := fun D σ H => te σ H fun y H1 => to σ H1 fun x H2 => ∃ a C, x = .ref a ∧ ErrC K C ∧ PySem.W.findIn K (.ref C) f = some none ∧ H2 a = some (exo a C none) ∧
  ∀ dx, H2 dx = none → dx ≠ a → D.nx σ (upd (upd H2 dx (exd dx [(f, y)])) a (exo a C (some dx)))
theorem ps_errSet {f : Str} {o e : Expr} {to te : TE} {p' pos : Pos} (ho : PE X o to) (he : PE X e te) (hs : swapsWith e (some (.Attribute o f p')) pos.line X.env = pure false := by rfl) : PS X (.Assign [.Attribute o f p'] e pos) (tErrSet X.K f to te) := by
  refine ⟨fun pins s σ H D I h => plainObj_wpAny_Assign_Attribute (thn (he.run pins s σ H _ I h) fun v s1 z => ?_) hs⟩
  obtain ⟨y, H1, I1, r1, q1⟩ := z
  refine thn (ho.run pins s1 σ H1 _ I1 q1) fun u s2 z => ?_
  obtain ⟨x, H2, I2, r2, a, C, rfl, T, no, ea, q⟩ := z
  obtain rfl : u = Value.ref a := r2
  exact err_store T I2 ea no r1 fun dx s3 n ne J => ⟨σ, _, J, q dx n ne⟩
end
end Z
set_option Elab.async false
set_option linter.all false
set_option autoImplicit false
set_option maxRecDepth 100000
set_option maxHeartbeats 4000000
/-! errors made: by place, by a word, of no arguments -/
namespace Z
open PySem PySem.Spec PyProof.Rows L2
def spErr (C : Addr) (f : Str) : Sp := fun vs H Q _ => ∃ a y, vs = [.ref a, y] ∧ H a = some (exo a C none) ∧ ∀ dx, H dx = none → dx ≠ a → Q .non (upd (upd H dx (exd dx [(f, y)])) a (exo a C (some dx)))
structure ErrK (P : Program) (w : World) (K : PySem.W.Frag) (mg : Str → Option Value) (base : Heap) (x : Str) (C : Addr) (f : Str) : Prop where
  gm : mg x = some (.ref C)
  ec : ErrC K C
  no : PySem.W.findIn K (.ref C) f = some none
  ini : ∃ fI fd, PySem.W.findIn K (.ref C) "__init__" = some (some (.ref fI)) ∧ PySem.W.typeIn K (.ref fI) = some (.type "function") ∧ FnOk P w K mg base CX0 1 fI fd ["self", f] (spErr C f) ∧
    Binds K fd ["self", f] [] ∧ KBn K fd ["self", f] 1 [f] (fun us ws => us ++ ws) (fun vs zs => vs ++ zs)
section
variable {X : Cx} {pins : List (Addr × Obj)} {σ : L2.St} {H : Hp} {s : Shared} {C : Addr} {x f : Str}
theorem run_err {y : V} {u : Value} {ps : List Value} {kw : List (Str × Value)} {Q : VK} (F : ErrK X.prog X.w X.K X.mg X.base x C f) (hr : Room 2 X.A) (I : Inv X pins σ H s) (ry : RelV y u) (hp : (ps = [u] ∧ kw = []) ∨ (ps = [] ∧ kw = [(f, u)]))
    (h : ∀ a H2, Same H H2 → Err H2 a C [(f, y)] → Q (.ref a) H2) : wpAny (model X.prog X.w) X.A (call (.ref C) ps kw) (EP X pins σ Q) X.xe s := by
  obtain ⟨fI, fd, li, lt, F1, b1, b2⟩ := F.ini
  obtain ⟨B, idN, idI, tail, bx, ini, _⟩ := F.ec.bs
  obtain ⟨nm, N, qn, bs, bm, hd, sn, sub, ab, col, dd, u0, u1, u2, u3, u5, oC, same⟩ := PySem.W.excInit_of I.kIn ini
  obtain ⟨hh, g, d, tk, os⟩ := s
  have lp : ps.length ≤ 1 := by rcases hp with ⟨rfl, _⟩ | ⟨rfl, _⟩ <;> simp
  have n0 : H (hh.objs.size + 1) = none := I.hok.fresh (Nat.le_succ _)
  have st : ∀ b o, hh.get? b = some o → ((hh.push (PySem.W.kdv_tup ps)).push (HandSPX.excO C hh.objs.size)).get? b = some o := fun b o e => Heap.get?_push_of_some _ (Heap.get?_push_of_some _ e)
  have oe : ((hh.push (PySem.W.kdv_tup ps)).push (HandSPX.excO C hh.objs.size)).get? (hh.objs.size + 1) = some (HandSPX.excO C hh.objs.size) := by heap_get
  have I2 : Inv X pins σ (upd H (hh.objs.size + 1) (exo (hh.objs.size + 1) C none)) ⟨(hh.push (PySem.W.kdv_tup ps)).push (HandSPX.excO C hh.objs.size), g, d, tk, os⟩ := I.laid (t' := tk) st (Nat.le_succ _) (exo_ok oe)
  have q0 : spErr C f [.ref (hh.objs.size + 1), y] (upd H (hh.objs.size + 1) (exo (hh.objs.size + 1) C none)) (fun v H2 => v = .non ∧ Q (.ref (hh.objs.size + 1)) H2) (fun _ _ _ => False) := by
    refine ⟨_, _, rfl, upd_same, fun dx n1 n2 => ⟨rfl, h _ _ (fun b o e => ?_) (.inr ⟨dx, upd_same, by rw [upd_ne n2, upd_same]⟩)⟩⟩
    have y1 : b ≠ hh.objs.size + 1 := ne_of_none e n0
    have y2 : b ≠ dx := ne_of_none e (by rw [upd_ne n2] at n1; exact n1)
    rw [upd_ne y1, upd_ne y2, upd_ne y1]; exact e
  have rr : Vals [V.ref (hh.objs.size + 1), y] [Value.ref (hh.objs.size + 1), u] := .cons rfl (.cons ry .nil)
  have bb : BindsTo ⟨(hh.push (PySem.W.kdv_tup ps)).push (HandSPX.excO C hh.objs.size), g, d, tk, os⟩ fd ⟨.ref (hh.objs.size + 1) :: ps, kw⟩ ((["self", f] : List Str).zip [Value.ref (hh.objs.size + 1), u]) := by
    rcases hp with ⟨rfl, rfl⟩ | ⟨rfl, rfl⟩
    · exact b1 _ [_, _] I2.kIn rfl
    · exact b2.to _ [_] [_] I2.kIn rfl rfl
  refine wpAny_call (ZE.errK_run bx.fb same oC (PySem.W.looks_findIn I.kIn li) (fun self => PySem.W.bind_fn I.kIn self lt) (Nat.le_trans lp (by decide))
    (codeAny_mono (F1.run _ X.stack _ _ ⟨.ref (hh.objs.size + 1) :: ps, kw⟩ _ _ _ _ (hr.make C ps kw) (I2.env0.make C ps kw) bb rr q0) fun r s2 z => ?_))
  match r, z with
  | .error e, z => exact False.elim z
  | .ok .next, z => exact False.elim z
  | .ok .brk, z => exact False.elim z
  | .ok .cont, z => exact False.elim z
  | .ok (.ret v), z =>
    obtain ⟨v2, H2, I3, rv, e2, q2⟩ := I2.after z
    subst e2
    exact ⟨rv, ⟨V.ref (hh.objs.size + 1), H2, I3, rfl, q2⟩⟩
/-- C(e) -/
def tErr (C : Addr) (f : Str) (te : TE) : TE := fun σ H Q => te σ H fun y H1 => ∀ a H2, Same H1 H2 → Err H2 a C [(f, y)] → Q (.ref a) H2
theorem pe_err {e : Expr} {te : TE} {p pos : Pos} (F : ErrK X.prog X.w X.K X.mg X.base x C f) {j : Nat} (hr : Room j X.A) (hj : 2 ≤ j) (he : PE X e te) (hg : Gl X x := by rfl) (hdb : (x == ("__debug__" : Str)) = false := by decide)
    (hs : starEach [e] X.env = (false, eval e X.env) :: starEach [] X.env := by rfl) : PE X (.Call (.Name x p) [e] [] pos) (tErr C f te) := by
  refine ⟨fun pins s σ H Q I h => wpAny_Call_Name_kw (ld_glob I hg F.gm ?_ hdb)⟩
  refine PySem.W.callWith_K (h₀ := X.base) I.ok.mod.kin F.ec.kp ?_ hs (by rfl)
  rw [hs]
  show wpAny _ _ (spliced ((false, eval e X.env) :: backTo pos (starEach [] X.env))) _ _ s
  refine Calls.spliced_cons (thn (he.run pins s σ H _ I h) fun u s1 z => ?_)
  obtain ⟨y, H1, I1, r1, q1⟩ := z
  exact Calls.spliced_nil ⟨I1.kIn, run_err F (hr.mono hj) I1 r1 (.inl ⟨rfl, rfl⟩) q1⟩
/-- C(f = e) -/
theorem pe_errKw {e : Expr} {te : TE} {p pos kpos : Pos} (F : ErrK X.prog X.w X.K X.mg X.base x C f) {j : Nat} (hr : Room j X.A) (hj : 2 ≤ j) (he : PE X e te) (hg : Gl X x := by rfl) (hdb : (x == ("__debug__" : Str)) = false := by decide)
    (hall : (backToKw pos (keywordEach [⟨some f, e, kpos⟩] X.env)).all (·.1.isSome) = true := by rfl) (hks : (backToKw pos (keywordEach [⟨some f, e, kpos⟩] X.env)).filterMap (·.1) = [f] := by rfl)
    (hpl : ((backTo pos (starEach [] X.env)).any (·.1) || (backToKw pos (keywordEach [⟨some f, e, kpos⟩] X.env)).any (·.1.isNone)) = false := by rfl) :
    PE X (.Call (.Name x p) [] [⟨some f, e, kpos⟩] pos) (tErr C f te) := by
  refine ⟨fun pins s σ H Q I h => wpAny_Call_Name_kw (ld_glob I hg F.gm ?_ hdb)⟩
  refine PySem.W.callWith_KW0 (h₀ := X.base) I.ok.mod.kin F.ec.kp hall (thn ((pk_cons (nm := some f) (kpos := kpos) he pk_nil).run pos pins s σ H (fun zs H1 => match zs with
    | [y] => ∀ a H2, Same H1 H2 → Err H2 a C [(f, y)] → Q (.ref a) H2
    | _ => False) I h) fun ws s1 z => ?_) hpl
  obtain ⟨zs, H1, I1, rz, q1⟩ := z
  match zs, ws, rz, q1 with
  | [y], [u], .cons r1 _, q1 =>
    rw [hks]
    exact ⟨I1.kIn, run_err F (hr.mono hj) I1 r1 (.inr ⟨rfl, rfl⟩) q1⟩
end
/-- C(), a class without an __init__ of its own -/
structure ErrN (K : PySem.W.Frag) (mg : Str → Option Value) (x : Str) (C : Addr) : Prop where
  gm : mg x = some (.ref C)
  ec : ErrC K C
  ini : ∃ B idN idI tail, BaseX B idN idI tail ∧ PySem.W.excIn K C tail idN = true
def tErrN (C : Addr) : TE := fun _ H Q => ∀ a H2, Same H H2 → Err H2 a C [] → Q (.ref a) H2
section
variable {X : Cx} {C : Addr} {x : Str}
theorem pe_errN {p pos : Pos} (F : ErrN X.K X.mg x C) (hg : Gl X x := by rfl) (hdb : (x == ("__debug__" : Str)) = false := by decide) : PE X (.Call (.Name x p) [] [] pos) (tErrN C) := by
  refine ⟨fun pins s σ H Q I h => wpAny_Call_Name_kw (ld_glob I hg F.gm ?_ hdb)⟩
  refine PySem.W.callWith_K0 I.kIn F.ec.kp ?_
  show wpAny _ _ (call (.ref C) []) _ _ _
  obtain ⟨B, idN, idI, tail, bx, ini⟩ := F.ini
  obtain ⟨bm, N, nm, qn, bs, hd, sn, sub, ab, col, dd, u0, u1, u2, u3, u5, mN, oC, hN, ni, T⟩ := exc_obj I.kIn ini
  refine wpAny_call_exc_subT bx.fb T oC hN ni (fun h2 a m => ?_) (by decide)
  have na : H a = none := I.hok.gone m.new
  obtain ⟨t, ht, _, _⟩ := m.there
  exact ⟨.ref a, upd H a (exo a C none), I.laidN m.keeps m.new na (exo_ok ht), rfl, h a _ (same_new na) (.inl ⟨rfl, upd_same⟩)⟩
end
end Z
set_option Elab.async false
set_option linter.all false
set_option autoImplicit false
set_option maxRecDepth 100000
set_option maxHeartbeats 4000000
/-! list.count of flat items; the table of error classes -/
namespace Z
open PySem PySem.Spec PyProof.Rows L2
theorem count_flat {y : V} : ∀ {ys : List V} {us : List Value}, Vals ys us → ys.all flatV = true → us.countP (eqU y) = ys.countP fun z => eqV z y
  | _, _, .nil, _ => rfl
  | z :: ys, u :: us, .cons r t, f => by
    rw [List.all_cons, Bool.and_eq_true] at f
    rw [List.countP_cons, List.countP_cons, count_flat t f.2, eqU_of r f.1]
def rCntV (K : PySem.W.Frag) : V → List V → Hp → VK → Prop := fun x xs H Q => ∃ (p : Addr) (ys : List V) (y : V), x = .ref p ∧ xs = [y] ∧ SqL K H p ys ∧ flatV y = true ∧ ys.all flatV = true ∧ Q (.int (ys.countP (fun z => eqV z y) : Nat)) H
section
variable {X : Cx} {K : PySem.W.Frag}
theorem mt_countV : MtR X "list.count" (rCntV X.K) := by
  intro pins s σ H x xs v us Q I rx rxs h
  obtain ⟨p, ys, y, rfl, rfl, hs, fy, fys, q⟩ := h
  cases rx
  obtain ⟨u, rfl, ru⟩ := rxs.one
  obtain ⟨its, rv, ⟨⟨cls, dd, data, sl⟩, n, ho, hc, hdn, hd⟩, hlen⟩ := I.list hs
  simp only at hc hd
  subst hc hd
  refine call_meets PySem.F.slot_list_count ⟨_, ho, rfl⟩ PySem.F.entry_list_count (PySem.F.args_list_count_2 _ _)
    (SeqAt.list_countAt p its.toArray n dd sl u (eqU y)) ⟨ho, fun w hw => mem_eqAt ru fy rv fys w (by simpa using hw), ?_⟩
  refine ⟨.int (ys.countP (fun z => eqV z y) : Nat), H, I.tok _, ⟨s.toks, ?_⟩, q⟩
  show Value.int ((its.countP (eqU y) : Nat) : Int) s.toks = _
  rw [count_flat rv fys]
theorem k_countV (h : X.K = K := by rfl) : MtR X "list.count" (rCntV K) := by subst h; exact mt_countV
theorem k_index (h : X.K = K := by rfl) : MtR X "list.index" (rIndex K) := by subst h; exact mt_index
theorem k_isX (h : X.K = K := by rfl) : CallR X (.builtin "isinstance") (rIsX K) := by subst h; exact call_isX
theorem k_errF {f : Str} {e : Expr} {te : TE} {pos : Pos} (he : PE X e te) (hb : attributeBase e f X.env (eval e X.env) = eval e X.env := by rfl) (h : X.K = K := by rfl) : PE X (.Attribute e f pos) (tErrF K f te) := by subst h; exact pe_errF he hb
theorem k_repr {j : Nat} (hr : Room j X.A) (st : Still X.A) (h : X.K = K := by rfl) : CallR X (.builtin "repr") (rRepr K) := by
  subst h
  exact call_reprD st (by have := hr.un; omega)
end
/-! the errors, in their order: name, and the field that it has -/
def errs : List (Str × Option Str) :=
  ([("InvalidName", some "name"), ("InvalidSchema", some "index"), ("InvalidRows", some "index"), ("InvalidRow", some "index"), ("InvalidValue", some "value"), ("InvalidExpression", some "path"), ("InvalidPlan", some "path"), ("InvalidSchemas", some "index")] : List (Str × Option Str)) ++
  ([("InvalidFeed", some "name"), ("InvalidNumber", some "number"), ("InvalidSteps", some "index"), ("InvalidPath", some "path"), ("InvalidText", some "text"), ("InvalidAction", some "index"), ("InvalidLine", some "line"), ("NotAFrame", some "value")] : List (Str × Option Str)) ++
  ([("NotAHouse", some "value"), ("NotAnExpr", some "value"), ("NotAPipe", some "value"), ("NotASheet", some "value"), ("UnknownSource", some "name"), ("UnknownColumn", some "name"), ("DoubleColumn", some "name"), ("WrongKind", some "word")] : List (Str × Option Str)) ++
  ([("DifferentSchemas", none), ("DoesNotApply", some "index"), ("NotSimple", none), ("NoText", none), ("Closed", none), ("Busy", none), ("NothingToUndo", none), ("TooMany", some "limit")] : List (Str × Option Str))
def famE (i : Nat) : Nat := if i < 20 then 0 else if i < 31 then 1 else 2
def famN : List Str := ["FrameError", "FindError", "LimitError"]
def famB : List String := ["ValueError", "LookupError", "ArithmeticError"]
structure ErrT (P : Program) (w : World) (K : PySem.W.Frag) (mg : Str → Option Value) (base : Heap) (cls bas : Nat → Addr) : Prop where
  em : ∀ i n f, errs[i]? = some (n, some f) → ErrK P w K mg base n (cls i) f
  en : ∀ i n, errs[i]? = some (n, none) → ErrN K mg n (cls i)
  is : ∀ i j, i < 32 → j < 32 → PySem.W.kitOne K (.ref (cls i)) (.ref (cls j)) = some (decide (i = j))
  bs : ∀ i j, i < 32 → j < 3 → PySem.W.kitOne K (.ref (cls i)) (.ref (bas j)) = some (decide (famE i = j))
  bt : ∀ i j n, i < 32 → famB[j]? = some n → PySem.W.kitOne K (.ref (cls i)) (.type n) = some (decide (famE i = j))
  gb : ∀ j n, famN[j]? = some n → mg n = some (.ref (bas j))
section
variable {P : Program} {w : World} {K : PySem.W.Frag} {mg : Str → Option Value} {base : Heap} {cls bas : Nat → Addr}
theorem ErrT.gm (T : ErrT P w K mg base cls bas) (i : Nat) (n : Str) (o : Option Str) (h : errs[i]? = some (n, o)) : mg n = some (.ref (cls i)) := by
  cases o with
  | none => exact (T.en i n h).gm
  | some f => exact (T.em i n f h).gm
theorem ErrT.ec (T : ErrT P w K mg base cls bas) (i : Nat) (h : i < 32) : ErrC K (cls i) := by
  have l : errs.length = 32 := by rfl
  obtain ⟨⟨n, o⟩, e⟩ : ∃ p, errs[i]? = some p := ⟨_, List.getElem?_eq_getElem (by rw [l]; exact h)⟩
  cases o with
  | none => exact (T.en i n e).ec
  | some f => exact (T.em i n f e).ec
end
end Z
set_option Elab.async false
set_option linter.all false
set_option autoImplicit false
set_option maxRecDepth 100000
set_option maxHeartbeats 4000000
namespace Z
open PySem PySem.Spec PyProof.Rows L2
def top (i : Nat) : Stmt := PySem.Challenge.pw_labelframes_k09_errors_made.main.body.getD i (.Pass ⟨0, 0, 0, 0⟩)
abbrev FnP (K : PySem.W.Frag) (x : Str) (st : Stmt) (f : Addr) (fd : FuncData) : Prop := FunD K x x (defArgs st) (defBody st) (defScope st) [] [] f fd
def Def0 (K : PySem.W.Frag) (mg : Str → Option Value) (x : Str) (st : Stmt) : Prop := ∃ f fd, FnP K x st f fd ∧ mg x = some (.ref f)
section
variable {P : Program} {w : World} {K : PySem.W.Frag} {mg : Str → Option Value} {base : Heap} {CX : CXT} {x : Str} {st : Stmt} {k : Nat} {ps : List Str} {sp : Sp} {f : Addr} {fd : FuncData}
theorem kn_of (F : FnP K x st f fd) (m : mg x = some (.ref f)) (ok : FnOk P w K mg base CX k f fd ps sp) (b : Binds K fd ps []) : Kn P w K mg base CX x k ps [] sp := ⟨f, fd, [], ok, m, F.kp, b, .nil⟩
theorem kn_ofG (F : FnP K x st f fd) (m : mg x = some (.ref f)) (ok : FnG P w K mg base CX k f fd ps sp) (b : Binds K fd ps []) : KnG P w K mg base CX x k ps [] sp := ⟨f, fd, [], ok, m, F.kp, b, .nil⟩
end
theorem pe_gv {X : Cx} {x : Str} {v : V} {pos : Pos} (h : ∃ u, X.mg x = some u ∧ RelV v u) (hg : Gl X x := by rfl) (hd : (x == ("__debug__" : Str)) = false := by decide) : PE X (.Name x pos) (tC v) := by
  obtain ⟨u, m, r⟩ := h
  exact pe_glob hg m r hd
structure Txt (K : PySem.W.Frag) (mg : Str → Option Value) : Prop where
  z_isinstance : mg "isinstance" = none
  z_len : mg "len" = none
  z_all : mg "all" = none
  z_range : mg "range" = none
  z_abs : mg "abs" = none
  z_divmod : mg "divmod" = none
  z_max : mg "max" = none
  z_min : mg "min" = none
  z_repr : mg "repr" = none
  z_ValueError : mg "ValueError" = none
  z_LookupError : mg "LookupError" = none
  z_ArithmeticError : mg "ArithmeticError" = none
end Z
set_option Elab.async false
set_option linter.all false
set_option autoImplicit false
set_option maxRecDepth 100000
set_option maxHeartbeats 4000000
namespace Z
open PySem PySem.Spec PyProof.Rows L2
def spLCell (K : PySem.W.Frag) : Sp := fun vs H Q _ => ∃ (a : Addr) (ns : List Int) (k : Int), vs = [.ref a, .int k] ∧ SqL K H a (ns.map V.int) ∧ 0 ≤ k ∧ k < 1000 ∧ ∀ i H', Same H H' → Q (.int i) H'
def spPoolL : Sp := fun vs H Q _ => ∃ c, vs = [.int c] ∧ ∀ i j k p H', -(2 ^ 64) < i → i < 2 ^ 64 → H p = none → Same H H' → H' p = some (.lst [.int i, .int j, .int k]) → Q (.ref p) H'
def spPool : Sp := fun vs H Q _ => ∃ c, vs = [.int c] ∧ ∀ p H', H p = none → Same H H' → H' p = some (Pool p) → Q (.ref p) H'
def spDrawL : Sp := fun vs H Q _ => ∃ p i j k many, vs = [.ref p, .int many] ∧ H p = some (.lst [.int i, .int j, .int k]) ∧ -(2 ^ 64) < i ∧ i < 2 ^ 64 ∧ 1 ≤ many ∧ many < 1073741824 ∧
  ∀ d i' j' k' H', 0 ≤ d → d < many → -(2 ^ 64) < i' → i' < 2 ^ 64 → (∀ b o, b ≠ p → H b = some o → H' b = some o) → H' p = some (.lst [.int i', .int j', .int k']) → Q (.int d) H'
def spDraw : Sp := fun vs H Q _ => ∃ p many, vs = [.ref p, .int many] ∧ H p = some (Pool p) ∧ 1 ≤ many ∧ many < 1073741824 ∧ ∀ d H', 0 ≤ d → d < many → Same H H' → Q (.int d) H'
section
variable {P : Program} {w : World} {K : PySem.W.Frag} {mg : Str → Option Value} {base : Heap} {C : Addr}
theorem kn__law_cell (D : Def0 K mg "_law_cell" (top 37)) (T : Txt K mg) : Kn P w K mg base CX0 "_law_cell" 1 ["script", "k"] [] (spLCell K) := by
  obtain ⟨f, fd, F, m⟩ := D
  have sc_ : FnScope ["script", "k", "state_here", "cell"] ["script", "k"] (defScope (top 37)) := ⟨rfl, rfl, rfl, by decide +kernel, rfl, by decide +kernel, by decide +kernel⟩
  refine kn_of F m (F.ok sc_ (fun vs H Q E h => ?_) (fun cdv A outer s H vs Q E hr h => ?_)) (F.bindsN fun _ _ _ _ _ _ us hl => match us, hl with | [_, _], _ => rfl)
  · obtain ⟨a, ns, k, rfl, _⟩ := h; rfl
  · obtain ⟨a, ns, k, rfl, hs, hk0, hk1, q⟩ := h
    refine ⟨_, PSs.nox (pss_cons (ps_if (pt_cmpR op_lt (pv 1) (pe_callB (k_len (K := K)) (by rfl) T.z_len (by decide +kernel) (pa_cons (pv 0) pa_nil)) (nomark _)) (pss_one (ps_ret (pe_ix (k_ixL (K := K)) (pv 0) (pv 1) (fun _ _ => rfl)))) pss_nil)
      (pss_cons (ps_set (i := 2) sc_.nd rfl (by first | exact Or.inl rfl | exact Or.inr rfl) (pe_op op_mod (pe_op op_mul pe_int (pe_op op_add (pe_op op_add (pe_op op_mul (pv 1) (pv 1)) (pe_op op_mul pe_int (pv 1))) pe_int)) pe_int))
      (pss_cons (ps_for PassesOwn.never rfl (k_list (K := K) (pe_slice (k_slL (K := K)) (pv 0) po_none (po_some pe_int))) (pg_name (i := 3) sc_.nd rfl (by first | exact Or.inl rfl | exact Or.inr rfl))
        (pss_one (ps_set (i := 2) sc_.nd rfl (by first | exact Or.inl rfl | exact Or.inr rfl) (pe_op op_mod (pe_op op_add (pe_op op_mul (pv 2) pe_int) (pv 3)) pe_int))))
      (pss_one (ps_ret (pv 2)))))), ?_⟩
    refine ⟨_, rfl, _, rfl, a, _, rfl, .inl hs, _, _, rfl, rfl, _, rfl, ?_⟩
    refine ite2 (fun c => ?_) (fun c => ?_)
    · simp only [decide_eq_true_eq, List.length_map] at c
      obtain ⟨n, rfl⟩ : ∃ n : Nat, k = (n : Int) := ⟨k.toNat, by omega⟩
      have hn : n < ns.length := by omega
      exact ⟨_, rfl, _, rfl, a, _, _, V.int ns[n], rfl, rfl, hs, atI_nat (by rw [List.getElem?_map, List.getElem?_eq_getElem hn]; rfl), q _ _ (Same.refl _)⟩
    · refine ⟨_, rfl, _, rfl, _, _, rfl, rfl, Or.inl ⟨by omega, by omega⟩, _, rfl, _, _, rfl, rfl, Or.inl ⟨by decide, by decide⟩, _, _, rfl, rfl, _, _, rfl, rfl, _, _, rfl, rfl, Or.inl ⟨by decide, by decide⟩, _, _, rfl, rfl, (by show (0 : Int) < 2147483423; decide), ?_⟩
      refine ⟨_, rfl, _, rfl, a, _, rfl, hs, fun p hp => ⟨p, rfl, ⟨_, SqL.of upd_same⟩, for_list (K := K) (a := p) (xs := _) (fun i σ H' => ∃ z o, σ = [some (.ref a), some (.int k), some (.int z), o] ∧ Same (upd H p (.lst (cutV (ns.map V.int) none (some 3)))) H') ⟨_, none, rfl, Same.refl _⟩ (fun i σ H' _ ⟨_, _, _, e⟩ => SqL.of (e _ _ upd_same)) ?_ ?_⟩⟩
      · rintro i y σ H' hi ⟨z, o, rfl, e⟩
        obtain ⟨u, rfl⟩ : ∃ u, y = V.int u := by
          have h1 : y ∈ cutV (ns.map V.int) none (some 3) := List.mem_of_getElem? hi
          have h2 : y ∈ ns.map V.int := List.mem_of_mem_drop (List.mem_of_mem_take h1)
          obtain ⟨u, _, rfl⟩ := List.mem_map.mp h2
          exact ⟨u, rfl⟩
        exact ⟨_, rfl, _, _, rfl, rfl, Or.inr ⟨by decide, by decide⟩, _, rfl, _, _, rfl, rfl, _, _, rfl, rfl, (by show (0 : Int) < 2147483423; decide), _, _, rfl, e⟩
      · rintro σ H' ⟨z, o, rfl, e⟩
        exact ⟨_, rfl, q _ _ ((same_new hp).trans e)⟩
theorem kn__law_pool (D : Def0 K mg "_law_pool" (top 38)) (T : Txt K mg) : Kn P w K mg base CX0 "_law_pool" 1 ["cell"] [] spPool := by
  obtain ⟨f, fd, F, m⟩ := D
  have sc_ : FnScope ["cell", "digits"] ["cell"] (defScope (top 38)) := ⟨rfl, rfl, rfl, by decide +kernel, rfl, by decide +kernel, by decide +kernel⟩
  have ok : FnOk P w K mg base CX0 1 f fd ["cell"] spPoolL := by
    refine F.ok sc_ (fun vs H Q E h => ?_) (fun cdv A outer s H vs Q E hr h => ?_)
    · obtain ⟨c, rfl, _⟩ := h; rfl
    · obtain ⟨c, rfl, q⟩ := h
      refine ⟨_, PSs.nox (pss_cons (ps_set (i := 1) sc_.nd rfl (by first | exact Or.inl rfl | exact Or.inr rfl) (pe_ifExp (PW.pt (pw_or (pt_cmpR op_lt (pv 0) pe_int (nomark _)) (pw_or1 (pt_cmpR op_ge (pv 0) (pe_op op_pow pe_int pe_int) (nomark _))))) (pe_callB call_abs (by rfl) T.z_abs (by decide +kernel) (pa_cons (pv 0) pa_nil)) pe_int))
      (pss_one (ps_ret (pe_lst (pa_cons (pe_op op_mod (pv 0) pe_int) (pa_cons (pv 1) (pa_cons pe_int pa_nil))))))), ?_⟩
      refine ⟨_, rfl, _, _, rfl, rfl, _, rfl, ?_⟩
      have fin : ∀ (j : Int), L2.tRet (tLst (tCons (tOp (rI (fun _ j => 0 < j) fun i j => .int (i % j)) (tVar 0) (tC (.int 2147483423))) (tCons (tVar 1) (tCons (tC (.int 0)) tNil)))) { nx := fun _ H' => Q .non H', rt := Q } [some (.int c), some (.int j)] H := fun j => by
        refine ⟨_, rfl, _, _, rfl, rfl, (by show (0 : Int) < 2147483423; decide), _, rfl, by show 3 ≤ sizeLine; decide, fun p hp => ?_⟩
        exact q _ _ _ p _ (by have := Int.emod_nonneg c (show (2147483423 : Int) ≠ 0 by decide); omega) (by have := Int.emod_lt_of_pos c (show (0 : Int) < 2147483423 by decide); omega) hp (same_new hp) upd_same
      refine ite2 (fun _ => iteT ⟨_, rfl, _, rfl, fin _⟩) (fun _ => ?_)
      refine ⟨_, rfl, _, _, rfl, rfl, ⟨by decide, by decide, by decide⟩, _, _, rfl, rfl, _, rfl, ?_⟩
      exact ite2 (fun _ => ⟨_, rfl, _, rfl, fin _⟩) (fun _ => fin 0)
  refine kn_of F m (FnOk.poolNew ok fun vs H Q E h => ?_) (F.bindsN fun _ _ _ _ _ _ us hl => match us, hl with | [_], _ => rfl)
  obtain ⟨c, rfl, q⟩ := h
  exact ⟨c, rfl, fun i j k p H' a b hp e hp' => ⟨p, i, j, k, a, b, hp, hp', q p _ hp (fun b' o h => by rw [upd_ne (ne_of_none h hp)]; exact e _ _ h) upd_same⟩⟩
theorem kn__law_draw (D : Def0 K mg "_law_draw" (top 39)) (T : Txt K mg) : Kn P w K mg base CX0 "_law_draw" 1 ["pool", "many"] [] spDraw := by
  obtain ⟨f, fd, F, m⟩ := D
  have sc_ : FnScope ["pool", "many", "was", "more", "digit"] ["pool", "many"] (defScope (top 39)) := ⟨rfl, rfl, rfl, by decide +kernel, rfl, by decide +kernel, by decide +kernel⟩
  have ok : FnOk P w K mg base CX0 1 f fd ["pool", "many"] spDrawL := by
    refine F.ok sc_ (fun vs H Q E h => ?_) (fun cdv A outer s H vs Q E hr h => ?_)
    · obtain ⟨p, i, j, k, many, rfl, _⟩ := h; rfl
    · obtain ⟨p, i, j, k, many, rfl, hp, hi1, hi2, hm1, hm2, q⟩ := h
      refine ⟨_, PSs.nox (pss_cons (ps_asg (pe_op op_add (pe_ix (k_ixL (K := K)) (pv 0) pe_int (fun _ _ => rfl)) pe_int) (pg_sub (pv 0) pe_int set_list))
      (pss_cons (ps_par (i := 2) (j := 3) (by rfl) sc_.nd rfl rfl (by decide) rfl rfl (pa_cons (pe_ix (k_ixL (K := K)) (pv 0) pe_int (fun _ _ => rfl)) (pa_cons (pe_op op_add (pe_op op_mul pe_int (pe_ix (k_ixL (K := K)) (pv 0) pe_int (fun _ _ => rfl))) pe_int) pa_nil)) (by rfl))
      (pss_cons (ps_asg (pe_op op_mod (pe_op op_add (pe_op op_mul (pv 2) (pe_op op_add (pe_op op_mod (pv 2) pe_int) pe_int)) (pv 3)) pe_int) (pg_sub (pv 0) pe_int set_list))
      (pss_cons (ps_if (pt_cmpR op_gt (pe_ix (k_ixL (K := K)) (pv 0) pe_int (fun _ _ => rfl)) pe_int (nomark _)) (pss_cons (ps_asg (pe_callB call_divmod (by rfl) T.z_divmod (by decide +kernel) (pa_cons (pe_ix (k_ixL (K := K)) (pv 0) pe_int (fun _ _ => rfl)) (pa_cons (pv 1) pa_nil))) (k_pgT (K := K) (pgs_cons (pg_sub (pv 0) pe_int set_list) (pgs_cons (pg_name (i := 4) sc_.nd rfl (by first | exact Or.inl rfl | exact Or.inr rfl)) pgs_nil))))
      (pss_one (ps_ret (pv 4)))) pss_nil)
      (pss_one (ps_ret (pe_op op_mod (pe_op op_fdiv (pe_ix (k_ixL (K := K)) (pv 0) pe_int (fun _ _ => rfl)) pe_int) (pv 1)))))))), ?_⟩
      -- the third number goes up by one
      refine ⟨_, rfl, p, _, _, _, rfl, rfl, SqL.of hp, atI_nat (j := 2) rfl, _, _, rfl, rfl, _, rfl, p, _, _, 2, rfl, rfl, hp, rfl, ?_⟩
      refine ⟨_, rfl, p, _, _, _, rfl, rfl, SqL.of upd_same, atI_nat (j := 0) rfl, _, rfl, p, _, _, _, rfl, rfl, SqL.of upd_same, atI_nat (j := 2) rfl, _, _, rfl, rfl, Or.inl ⟨by decide, by decide⟩, _, _, rfl, rfl, _, _, rfl, ?_⟩
      refine ⟨_, rfl, _, rfl, _, _, rfl, rfl, (by show (0 : Int) < 43013; decide), _, _, rfl, rfl, _, _, rfl, rfl, Or.inl ⟨hi1, hi2⟩, _, rfl, _, _, rfl, rfl, _, _, rfl, rfl, (by show (0 : Int) < 2147483423; decide), _, rfl, p, _, _, 0, rfl, rfl, upd_same, rfl, ?_⟩
      have b1 := Int.emod_nonneg (i * (i % 43013 + 26003) + (60029 * (k + 1) + 19)) (show (2147483423 : Int) ≠ 0 by decide)
      have b2 := Int.emod_lt_of_pos (i * (i % 43013 + 26003) + (60029 * (k + 1) + 19)) (show (0 : Int) < 2147483423 by decide)
      generalize hz : (i * (i % 43013 + 26003) + (60029 * (k + 1) + 19)) % 2147483423 = z at b1 b2
      have keep : ∀ o1 o2, ∀ b o, b ≠ p → H b = some o → (upd (upd H p o1) p o2) b = some o := fun o1 o2 b o hb h => by
        rw [upd_ne hb, upd_ne hb]; exact h
      refine ⟨_, rfl, p, _, _, _, rfl, rfl, SqL.of upd_same, atI_nat (j := 1) rfl, _, _, rfl, rfl, _, rfl, ?_⟩
      refine ite2 (fun c => ?_) (fun c => ?_)
      · refine ⟨_, rfl, p, _, _, _, rfl, rfl, SqL.of upd_same, atI_nat (j := 1) rfl, _, rfl, _, _, rfl, ⟨by omega, hm2⟩, fun t ht => ?_⟩
        have ne : p ≠ t := fun e => by rw [← e, upd_same] at ht; cases ht
        have htn : H t = none := by rw [upd_ne (Ne.symm ne), upd_ne (Ne.symm ne)] at ht; exact ht
        refine ⟨t, _, rfl, SqT.of upd_same, rfl, _, _, rfl, ?_⟩
        refine ⟨_, rfl, p, _, _, 1, rfl, rfl, (by rw [upd_ne ne, upd_same]), rfl, ?_⟩
        refine ⟨_, _, rfl, rfl, _, rfl, ?_⟩
        exact q _ _ _ _ _ (Int.emod_nonneg _ (by omega)) (Int.emod_lt_of_pos _ (by omega)) (show -(2 ^ 64) < z by omega) (show z < 2 ^ 64 by omega) (fun b o hb h => by
          rw [upd_ne hb, upd_ne (ne_of_none h htn)]; exact keep _ _ b o hb h) (by rw [upd_same, ← hz]; rfl)
      · refine ⟨_, rfl, p, _, _, _, rfl, rfl, SqL.of upd_same, atI_nat (j := 0) rfl, _, _, rfl, rfl, ⟨by decide, by decide⟩, _, rfl, _, _, rfl, rfl, (by show 0 < many; omega), ?_⟩
        exact q _ _ _ _ _ (Int.emod_nonneg _ (by omega)) (Int.emod_lt_of_pos _ (by omega)) (show -(2 ^ 64) < z by omega) (show z < 2 ^ 64 by omega) (keep _ _) (by rw [upd_same, ← hz]; rfl)
  refine kn_of F m (FnOk.pool ok fun vs H Q E h => ?_) (F.bindsN fun _ _ _ _ _ _ us hl => match us, hl with | [_, _], _ => rfl)
  obtain ⟨p, many, rfl, hp, h1, h2, q⟩ := h
  refine ⟨p, hp, fun i j k a b => ⟨p, i, j, k, many, rfl, upd_same, a, b, h1, h2, fun d i' j' k' H' d0 d1 a' b' kp hp' => ⟨i', j', k', a', b', hp', q d _ d0 d1 fun c o h => ?_⟩⟩⟩
  by_cases hc : c = p
  · subst hc; rw [hp] at h; cases h; exact upd_same
  · rw [upd_ne hc]; exact kp c o hc (by rw [upd_ne hc]; exact h)
end
end Z
set_option Elab.async false
set_option linter.all false
set_option autoImplicit false
set_option maxRecDepth 100000
set_option maxHeartbeats 4000000
namespace Z
open PySem PySem.Spec PyProof.Rows L2
def spErrNo (K : PySem.W.Frag) (cls : Nat → Addr) : Sp := fun vs H Q _ => ∃ a i fs, vs = [.ref a] ∧ i < 32 ∧ Err H a (cls i) fs ∧ ∀ H', Same H H' → Q (.int (i : Nat)) H'
section
variable {P : Program} {w : World} {K : PySem.W.Frag} {mg : Str → Option Value} {base : Heap} {cls bas : Nat → Addr} {H : Hp} {a : Addr} {fs : List (Str × V)} {i : Nat}
def bools (i : Nat) : List V := (List.range 32).map fun j => .bl (decide (i = j))
theorem bools_get (i m : Nat) (h : m < 32) : (bools i)[m]? = some (.bl (decide (i = m))) := by simp [bools, h]
theorem bools_count (i : Nat) (h : i < 32) : (bools i).countP (fun z => eqV z (.bl true)) = 1 := by
  have z : ∀ i < 32, (bools i).countP (fun z => eqV z (.bl true)) = 1 := by decide
  exact z i h
def famD (i : Nat) : PyData := .list [.bool (decide (famE i = 0)), .bool (decide (famE i = 1)), .bool (decide (famE i = 2))]
theorem bool3 : ∀ x y z : Bool, PyData.eqv (.list [.bool x, .bool y, .bool z]) (.list [.bool x, .bool y, .bool z]) = true := by decide
theorem famD_eq (i : Nat) : PyData.eqv (famD i) (famD i) = true := bool3 _ _ _
theorem famD_at (i : Nat) (h : i < 32) : PyData.eqv (famD i) (.list [.bool (decide ((i : Int) < 20)), .bool (decide (19 < i ∧ i < 31)), .bool (decide (i = 31))]) = true := by
  have z : ∀ i < 32, PyData.eqv (famD i) (.list [.bool (decide ((i : Int) < 20)), .bool (decide (19 < i ∧ i < 31)), .bool (decide (i = 31))]) = true := by decide
  exact z i h
theorem relRef {c : Addr} : ∀ u, RelV (.ref c) u → u = Value.ref c := fun u r => by cases r; rfl
theorem relTy {n : String} : ∀ u, RelV (.ty n) u → u = Value.type n := fun u r => by cases r; rfl
theorem kn__law_error (D : Def0 K mg "_law_error" (top 40)) (T : Txt K mg) (ET : ErrT P w K mg base cls bas) : Kn P w K mg base CX0 "_law_error" 1 ["e"] [] (spErrNo K cls) := by
  obtain ⟨f, fd, F, m⟩ := D
  have sc_ : FnScope ["e", "found", "bases", "own", "at"] ["e"] (defScope (top 40)) := ⟨rfl, rfl, rfl, by decide +kernel, rfl, by decide +kernel, by decide +kernel⟩
  refine kn_of F m (F.ok sc_ (fun vs H Q E h => ?_) (fun cdv A outer s H vs Q E hr h => ?_)) (F.bindsN fun _ _ _ _ _ _ us hl => match us, hl with | [_], _ => rfl)
  · obtain ⟨a, i, fs, rfl, _⟩ := h; rfl
  · obtain ⟨a, i, fs, rfl, hi, he, q⟩ := h
    refine ⟨_, PSs.nox (pss_cons (ps_set (i := 1) sc_.nd rfl (by first | exact Or.inl rfl | exact Or.inr rfl) (pe_lst (pa_cons (pe_callB (k_isX (K := K)) (by rfl) T.z_isinstance (by decide +kernel) (pa_cons (pv 0) (pa_cons (pe_glob (v := .ref (cls 0)) rfl (ET.gm 0 "InvalidName" (some "name") rfl) rfl) pa_nil))) (pa_cons (pe_callB (k_isX (K := K)) (by rfl) T.z_isinstance (by decide +kernel) (pa_cons (pv 0) (pa_cons (pe_glob (v := .ref (cls 1)) rfl (ET.gm 1 "InvalidSchema" (some "index") rfl) rfl) pa_nil))) (pa_cons (pe_callB (k_isX (K := K)) (by rfl) T.z_isinstance (by decide +kernel) (pa_cons (pv 0) (pa_cons (pe_glob (v := .ref (cls 2)) rfl (ET.gm 2 "InvalidRows" (some "index") rfl) rfl) pa_nil))) pa_nil)))))
      (pss_cons (ps_set (i := 1) sc_.nd rfl (by first | exact Or.inl rfl | exact Or.inr rfl) (pe_op op_cat (pv 1) (pe_lst (pa_cons (pe_callB (k_isX (K := K)) (by rfl) T.z_isinstance (by decide +kernel) (pa_cons (pv 0) (pa_cons (pe_glob (v := .ref (cls 3)) rfl (ET.gm 3 "InvalidRow" (some "index") rfl) rfl) pa_nil))) (pa_cons (pe_callB (k_isX (K := K)) (by rfl) T.z_isinstance (by decide +kernel) (pa_cons (pv 0) (pa_cons (pe_glob (v := .ref (cls 4)) rfl (ET.gm 4 "InvalidValue" (some "value") rfl) rfl) pa_nil))) (pa_cons (pe_callB (k_isX (K := K)) (by rfl) T.z_isinstance (by decide +kernel) (pa_cons (pv 0) (pa_cons (pe_glob (v := .ref (cls 5)) rfl (ET.gm 5 "InvalidExpression" (some "path") rfl) rfl) pa_nil))) pa_nil))))))
      (pss_cons (ps_set (i := 1) sc_.nd rfl (by first | exact Or.inl rfl | exact Or.inr rfl) (pe_op op_cat (pv 1) (pe_lst (pa_cons (pe_callB (k_isX (K := K)) (by rfl) T.z_isinstance (by decide +kernel) (pa_cons (pv 0) (pa_cons (pe_glob (v := .ref (cls 6)) rfl (ET.gm 6 "InvalidPlan" (some "path") rfl) rfl) pa_nil))) (pa_cons (pe_callB (k_isX (K := K)) (by rfl) T.z_isinstance (by decide +kernel) (pa_cons (pv 0) (pa_cons (pe_glob (v := .ref (cls 7)) rfl (ET.gm 7 "InvalidSchemas" (some "index") rfl) rfl) pa_nil))) (pa_cons (pe_callB (k_isX (K := K)) (by rfl) T.z_isinstance (by decide +kernel) (pa_cons (pv 0) (pa_cons (pe_glob (v := .ref (cls 8)) rfl (ET.gm 8 "InvalidFeed" (some "name") rfl) rfl) pa_nil))) pa_nil))))))
      (pss_cons (ps_set (i := 1) sc_.nd rfl (by first | exact Or.inl rfl | exact Or.inr rfl) (pe_op op_cat (pv 1) (pe_lst (pa_cons (pe_callB (k_isX (K := K)) (by rfl) T.z_isinstance (by decide +kernel) (pa_cons (pv 0) (pa_cons (pe_glob (v := .ref (cls 9)) rfl (ET.gm 9 "InvalidNumber" (some "number") rfl) rfl) pa_nil))) (pa_cons (pe_callB (k_isX (K := K)) (by rfl) T.z_isinstance (by decide +kernel) (pa_cons (pv 0) (pa_cons (pe_glob (v := .ref (cls 10)) rfl (ET.gm 10 "InvalidSteps" (some "index") rfl) rfl) pa_nil))) (pa_cons (pe_callB (k_isX (K := K)) (by rfl) T.z_isinstance (by decide +kernel) (pa_cons (pv 0) (pa_cons (pe_glob (v := .ref (cls 11)) rfl (ET.gm 11 "InvalidPath" (some "path") rfl) rfl) pa_nil))) pa_nil))))))
      (pss_cons (ps_set (i := 1) sc_.nd rfl (by first | exact Or.inl rfl | exact Or.inr rfl) (pe_op op_cat (pv 1) (pe_lst (pa_cons (pe_callB (k_isX (K := K)) (by rfl) T.z_isinstance (by decide +kernel) (pa_cons (pv 0) (pa_cons (pe_glob (v := .ref (cls 12)) rfl (ET.gm 12 "InvalidText" (some "text") rfl) rfl) pa_nil))) (pa_cons (pe_callB (k_isX (K := K)) (by rfl) T.z_isinstance (by decide +kernel) (pa_cons (pv 0) (pa_cons (pe_glob (v := .ref (cls 13)) rfl (ET.gm 13 "InvalidAction" (some "index") rfl) rfl) pa_nil))) (pa_cons (pe_callB (k_isX (K := K)) (by rfl) T.z_isinstance (by decide +kernel) (pa_cons (pv 0) (pa_cons (pe_glob (v := .ref (cls 14)) rfl (ET.gm 14 "InvalidLine" (some "line") rfl) rfl) pa_nil))) pa_nil))))))
      (pss_cons (ps_set (i := 1) sc_.nd rfl (by first | exact Or.inl rfl | exact Or.inr rfl) (pe_op op_cat (pv 1) (pe_lst (pa_cons (pe_callB (k_isX (K := K)) (by rfl) T.z_isinstance (by decide +kernel) (pa_cons (pv 0) (pa_cons (pe_glob (v := .ref (cls 15)) rfl (ET.gm 15 "NotAFrame" (some "value") rfl) rfl) pa_nil))) (pa_cons (pe_callB (k_isX (K := K)) (by rfl) T.z_isinstance (by decide +kernel) (pa_cons (pv 0) (pa_cons (pe_glob (v := .ref (cls 16)) rfl (ET.gm 16 "NotAHouse" (some "value") rfl) rfl) pa_nil))) (pa_cons (pe_callB (k_isX (K := K)) (by rfl) T.z_isinstance (by decide +kernel) (pa_cons (pv 0) (pa_cons (pe_glob (v := .ref (cls 17)) rfl (ET.gm 17 "NotAnExpr" (some "value") rfl) rfl) pa_nil))) pa_nil))))))
      (pss_cons (ps_set (i := 1) sc_.nd rfl (by first | exact Or.inl rfl | exact Or.inr rfl) (pe_op op_cat (pv 1) (pe_lst (pa_cons (pe_callB (k_isX (K := K)) (by rfl) T.z_isinstance (by decide +kernel) (pa_cons (pv 0) (pa_cons (pe_glob (v := .ref (cls 18)) rfl (ET.gm 18 "NotAPipe" (some "value") rfl) rfl) pa_nil))) (pa_cons (pe_callB (k_isX (K := K)) (by rfl) T.z_isinstance (by decide +kernel) (pa_cons (pv 0) (pa_cons (pe_glob (v := .ref (cls 19)) rfl (ET.gm 19 "NotASheet" (some "value") rfl) rfl) pa_nil))) (pa_cons (pe_callB (k_isX (K := K)) (by rfl) T.z_isinstance (by decide +kernel) (pa_cons (pv 0) (pa_cons (pe_glob (v := .ref (cls 20)) rfl (ET.gm 20 "UnknownSource" (some "name") rfl) rfl) pa_nil))) pa_nil))))))
      (pss_cons (ps_set (i := 1) sc_.nd rfl (by first | exact Or.inl rfl | exact Or.inr rfl) (pe_op op_cat (pv 1) (pe_lst (pa_cons (pe_callB (k_isX (K := K)) (by rfl) T.z_isinstance (by decide +kernel) (pa_cons (pv 0) (pa_cons (pe_glob (v := .ref (cls 21)) rfl (ET.gm 21 "UnknownColumn" (some "name") rfl) rfl) pa_nil))) (pa_cons (pe_callB (k_isX (K := K)) (by rfl) T.z_isinstance (by decide +kernel) (pa_cons (pv 0) (pa_cons (pe_glob (v := .ref (cls 22)) rfl (ET.gm 22 "DoubleColumn" (some "name") rfl) rfl) pa_nil))) (pa_cons (pe_callB (k_isX (K := K)) (by rfl) T.z_isinstance (by decide +kernel) (pa_cons (pv 0) (pa_cons (pe_glob (v := .ref (cls 23)) rfl (ET.gm 23 "WrongKind" (some "word") rfl) rfl) pa_nil))) pa_nil))))))
      (pss_cons (ps_set (i := 1) sc_.nd rfl (by first | exact Or.inl rfl | exact Or.inr rfl) (pe_op op_cat (pv 1) (pe_lst (pa_cons (pe_callB (k_isX (K := K)) (by rfl) T.z_isinstance (by decide +kernel) (pa_cons (pv 0) (pa_cons (pe_glob (v := .ref (cls 24)) rfl (ET.gm 24 "DifferentSchemas" none rfl) rfl) pa_nil))) (pa_cons (pe_callB (k_isX (K := K)) (by rfl) T.z_isinstance (by decide +kernel) (pa_cons (pv 0) (pa_cons (pe_glob (v := .ref (cls 25)) rfl (ET.gm 25 "DoesNotApply" (some "index") rfl) rfl) pa_nil))) (pa_cons (pe_callB (k_isX (K := K)) (by rfl) T.z_isinstance (by decide +kernel) (pa_cons (pv 0) (pa_cons (pe_glob (v := .ref (cls 26)) rfl (ET.gm 26 "NotSimple" none rfl) rfl) pa_nil))) pa_nil))))))
      (pss_cons (ps_set (i := 1) sc_.nd rfl (by first | exact Or.inl rfl | exact Or.inr rfl) (pe_op op_cat (pv 1) (pe_lst (pa_cons (pe_callB (k_isX (K := K)) (by rfl) T.z_isinstance (by decide +kernel) (pa_cons (pv 0) (pa_cons (pe_glob (v := .ref (cls 27)) rfl (ET.gm 27 "NoText" none rfl) rfl) pa_nil))) (pa_cons (pe_callB (k_isX (K := K)) (by rfl) T.z_isinstance (by decide +kernel) (pa_cons (pv 0) (pa_cons (pe_glob (v := .ref (cls 28)) rfl (ET.gm 28 "Closed" none rfl) rfl) pa_nil))) (pa_cons (pe_callB (k_isX (K := K)) (by rfl) T.z_isinstance (by decide +kernel) (pa_cons (pv 0) (pa_cons (pe_glob (v := .ref (cls 29)) rfl (ET.gm 29 "Busy" none rfl) rfl) pa_nil))) pa_nil))))))
      (pss_cons (ps_set (i := 1) sc_.nd rfl (by first | exact Or.inl rfl | exact Or.inr rfl) (pe_op op_cat (pv 1) (pe_lst (pa_cons (pe_callB (k_isX (K := K)) (by rfl) T.z_isinstance (by decide +kernel) (pa_cons (pv 0) (pa_cons (pe_glob (v := .ref (cls 30)) rfl (ET.gm 30 "NothingToUndo" none rfl) rfl) pa_nil))) (pa_cons (pe_callB (k_isX (K := K)) (by rfl) T.z_isinstance (by decide +kernel) (pa_cons (pv 0) (pa_cons (pe_glob (v := .ref (cls 31)) rfl (ET.gm 31 "TooMany" (some "limit") rfl) rfl) pa_nil))) pa_nil)))))
      (pss_cons (ps_set (i := 2) sc_.nd rfl (by first | exact Or.inl rfl | exact Or.inr rfl) (pe_lst (pa_cons (pe_callB (k_isX (K := K)) (by rfl) T.z_isinstance (by decide +kernel) (pa_cons (pv 0) (pa_cons (pe_glob (v := .ref (bas 0)) rfl (ET.gb 0 "FrameError" rfl) rfl) pa_nil))) (pa_cons (pe_callB (k_isX (K := K)) (by rfl) T.z_isinstance (by decide +kernel) (pa_cons (pv 0) (pa_cons (pe_glob (v := .ref (bas 1)) rfl (ET.gb 1 "FindError" rfl) rfl) pa_nil))) (pa_cons (pe_callB (k_isX (K := K)) (by rfl) T.z_isinstance (by decide +kernel) (pa_cons (pv 0) (pa_cons (pe_glob (v := .ref (bas 2)) rfl (ET.gb 2 "LimitError" rfl) rfl) pa_nil))) pa_nil)))))
      (pss_cons (ps_set (i := 3) sc_.nd rfl (by first | exact Or.inl rfl | exact Or.inr rfl) (pe_lst (pa_cons (pe_callB (k_isX (K := K)) (by rfl) T.z_isinstance (by decide +kernel) (pa_cons (pv 0) (pa_cons (pe_bltn (v := .ty "ValueError") (by rfl) T.z_ValueError (by decide +kernel) rfl) pa_nil))) (pa_cons (pe_callB (k_isX (K := K)) (by rfl) T.z_isinstance (by decide +kernel) (pa_cons (pv 0) (pa_cons (pe_bltn (v := .ty "LookupError") (by rfl) T.z_LookupError (by decide +kernel) rfl) pa_nil))) (pa_cons (pe_callB (k_isX (K := K)) (by rfl) T.z_isinstance (by decide +kernel) (pa_cons (pv 0) (pa_cons (pe_bltn (v := .ty "ArithmeticError") (by rfl) T.z_ArithmeticError (by decide +kernel) rfl) pa_nil))) pa_nil)))))
      (pss_cons (ps_if (PW.pt (pw_or (pt_cmpR op_ne (k_bm (K := K) PySem.F.plainAttrs_list PySem.F.slot_list_count PySem.F.type_list_count (k_countV (K := K)) (pv 1) (pa_cons pe_bl pa_nil)) pe_int (nomark _)) (pw_or1 (pt_cmpR (k_neD (K := K) hr.units) (pv 3) (pv 2) (nomark _))))) (pss_one (ps_ret (pe_op op_sub pe_int pe_int))) pss_nil)
      (pss_cons (ps_set (i := 4) sc_.nd rfl (by first | exact Or.inl rfl | exact Or.inr rfl) (k_bm (K := K) PySem.F.plainAttrs_list PySem.F.slot_list_index PySem.F.type_list_index (k_index (K := K)) (pv 1) (pa_cons pe_bl pa_nil)))
      (pss_one (ps_ret (pe_ifExp (pt_cmpR (k_eqD (K := K) hr.units) (pv 2) (pe_lst (pa_cons (pe_cmpR op_lt (pv 4) pe_int (nomark _)) (pa_cons (pe_chain op_lt op_lt pe_int (pv 4) pe_int) (pa_cons (pe_cmpR op_eq (pv 4) pe_int (nomark _)) pa_nil)))) (nomark _)) (pv 4) (pe_op op_sub pe_int pe_int))))))))))))))))))), ?_⟩
    have l2 : ∀ n : Nat, n ≤ 1000 → n ≤ sizeLine := fun n h => Nat.le_trans h (by decide)
    refine ⟨_, rfl, _, _, _, _, .ref (cls 0), _, rfl, he, ET.ec i hi, relRef, ET.is i 0 hi (by decide), _, rfl, _, _, _, _, .ref (cls 1), _, rfl, he, ET.ec i hi, relRef, ET.is i 1 hi (by decide), _, rfl, _, _, _, _, .ref (cls 2), _, rfl, he, ET.ec i hi, relRef, ET.is i 2 hi (by decide), l2 3 (by decide), fun p1 n1 => ?_⟩
    have e1 : Same H (upd H p1 (.lst ([.bl (decide (i = 0)), .bl (decide (i = 1)), .bl (decide (i = 2))] : List V))) := same_new n1
    have h1 : (upd H p1 (.lst ([.bl (decide (i = 0)), .bl (decide (i = 1)), .bl (decide (i = 2))] : List V))) p1 = some (.lst ([.bl (decide (i = 0)), .bl (decide (i = 1)), .bl (decide (i = 2))] : List V)) := upd_same
    generalize upd H p1 (HO.lst ([.bl (decide (i = 0)), .bl (decide (i = 1)), .bl (decide (i = 2))] : List V)) = H1 at e1 h1 ⊢
    clear n1
    change tSeq _ _ _ [some (.ref a), some (.ref p1), none, none, none] _
    refine ⟨_, rfl, _, rfl, _, _, _, _, .ref (cls 3), _, rfl, (he.mono e1), ET.ec i hi, relRef, ET.is i 3 hi (by decide), _, rfl, _, _, _, _, .ref (cls 4), _, rfl, (he.mono e1), ET.ec i hi, relRef, ET.is i 4 hi (by decide), _, rfl, _, _, _, _, .ref (cls 5), _, rfl, (he.mono e1), ET.ec i hi, relRef, ET.is i 5 hi (by decide), l2 3 (by decide), fun r2 n2 => ⟨_, _, _, _, rfl, rfl, same_new n2 _ _ h1, upd_same, l2 6 (by decide), fun p2 m2 => ?_⟩⟩
    have e2 : Same H (upd (upd H1 r2 (.lst [.bl (decide (i = 3)), .bl (decide (i = 4)), .bl (decide (i = 5))])) p2 (.lst (([.bl (decide (i = 0)), .bl (decide (i = 1)), .bl (decide (i = 2))] : List V) ++ ([.bl (decide (i = 3)), .bl (decide (i = 4)), .bl (decide (i = 5))] : List V)))) := (e1.trans (same_new n2)).trans (same_new m2)
    have h2 : (upd (upd H1 r2 (.lst [.bl (decide (i = 3)), .bl (decide (i = 4)), .bl (decide (i = 5))])) p2 (.lst (([.bl (decide (i = 0)), .bl (decide (i = 1)), .bl (decide (i = 2))] : List V) ++ ([.bl (decide (i = 3)), .bl (decide (i = 4)), .bl (decide (i = 5))] : List V)))) p2 = some (.lst (([.bl (decide (i = 0)), .bl (decide (i = 1)), .bl (decide (i = 2))] : List V) ++ ([.bl (decide (i = 3)), .bl (decide (i = 4)), .bl (decide (i = 5))] : List V))) := upd_same
    generalize upd (upd H1 r2 (HO.lst [.bl (decide (i = 3)), .bl (decide (i = 4)), .bl (decide (i = 5))])) p2 (HO.lst (([.bl (decide (i = 0)), .bl (decide (i = 1)), .bl (decide (i = 2))] : List V) ++ ([.bl (decide (i = 3)), .bl (decide (i = 4)), .bl (decide (i = 5))] : List V))) = H2 at e2 h2 ⊢
    clear n2 m2
    change tSeq _ _ _ [some (.ref a), some (.ref p2), none, none, none] _
    refine ⟨_, rfl, _, rfl, _, _, _, _, .ref (cls 6), _, rfl, (he.mono e2), ET.ec i hi, relRef, ET.is i 6 hi (by decide), _, rfl, _, _, _, _, .ref (cls 7), _, rfl, (he.mono e2), ET.ec i hi, relRef, ET.is i 7 hi (by decide), _, rfl, _, _, _, _, .ref (cls 8), _, rfl, (he.mono e2), ET.ec i hi, relRef, ET.is i 8 hi (by decide), l2 3 (by decide), fun r3 n3 => ⟨_, _, _, _, rfl, rfl, same_new n3 _ _ h2, upd_same, l2 9 (by decide), fun p3 m3 => ?_⟩⟩
    have e3 : Same H (upd (upd H2 r3 (.lst [.bl (decide (i = 6)), .bl (decide (i = 7)), .bl (decide (i = 8))])) p3 (.lst ((([.bl (decide (i = 0)), .bl (decide (i = 1)), .bl (decide (i = 2))] : List V) ++ ([.bl (decide (i = 3)), .bl (decide (i = 4)), .bl (decide (i = 5))] : List V)) ++ ([.bl (decide (i = 6)), .bl (decide (i = 7)), .bl (decide (i = 8))] : List V)))) := (e2.trans (same_new n3)).trans (same_new m3)
    have h3 : (upd (upd H2 r3 (.lst [.bl (decide (i = 6)), .bl (decide (i = 7)), .bl (decide (i = 8))])) p3 (.lst ((([.bl (decide (i = 0)), .bl (decide (i = 1)), .bl (decide (i = 2))] : List V) ++ ([.bl (decide (i = 3)), .bl (decide (i = 4)), .bl (decide (i = 5))] : List V)) ++ ([.bl (decide (i = 6)), .bl (decide (i = 7)), .bl (decide (i = 8))] : List V)))) p3 = some (.lst ((([.bl (decide (i = 0)), .bl (decide (i = 1)), .bl (decide (i = 2))] : List V) ++ ([.bl (decide (i = 3)), .bl (decide (i = 4)), .bl (decide (i = 5))] : List V)) ++ ([.bl (decide (i = 6)), .bl (decide (i = 7)), .bl (decide (i = 8))] : List V))) := upd_same
    generalize upd (upd H2 r3 (HO.lst [.bl (decide (i = 6)), .bl (decide (i = 7)), .bl (decide (i = 8))])) p3 (HO.lst ((([.bl (decide (i = 0)), .bl (decide (i = 1)), .bl (decide (i = 2))] : List V) ++ ([.bl (decide (i = 3)), .bl (decide (i = 4)), .bl (decide (i = 5))] : List V)) ++ ([.bl (decide (i = 6)), .bl (decide (i = 7)), .bl (decide (i = 8))] : List V))) = H3 at e3 h3 ⊢
    clear n3 m3
    change tSeq _ _ _ [some (.ref a), some (.ref p3), none, none, none] _
    refine ⟨_, rfl, _, rfl, _, _, _, _, .ref (cls 9), _, rfl, (he.mono e3), ET.ec i hi, relRef, ET.is i 9 hi (by decide), _, rfl, _, _, _, _, .ref (cls 10), _, rfl, (he.mono e3), ET.ec i hi, relRef, ET.is i 10 hi (by decide), _, rfl, _, _, _, _, .ref (cls 11), _, rfl, (he.mono e3), ET.ec i hi, relRef, ET.is i 11 hi (by decide), l2 3 (by decide), fun r4 n4 => ⟨_, _, _, _, rfl, rfl, same_new n4 _ _ h3, upd_same, l2 12 (by decide), fun p4 m4 => ?_⟩⟩
    have e4 : Same H (upd (upd H3 r4 (.lst [.bl (decide (i = 9)), .bl (decide (i = 10)), .bl (decide (i = 11))])) p4 (.lst (((([.bl (decide (i = 0)), .bl (decide (i = 1)), .bl (decide (i = 2))] : List V) ++ ([.bl (decide (i = 3)), .bl (decide (i = 4)), .bl (decide (i = 5))] : List V)) ++ ([.bl (decide (i = 6)), .bl (decide (i = 7)), .bl (decide (i = 8))] : List V)) ++ ([.bl (decide (i = 9)), .bl (decide (i = 10)), .bl (decide (i = 11))] : List V)))) := (e3.trans (same_new n4)).trans (same_new m4)
    have h4 : (upd (upd H3 r4 (.lst [.bl (decide (i = 9)), .bl (decide (i = 10)), .bl (decide (i = 11))])) p4 (.lst (((([.bl (decide (i = 0)), .bl (decide (i = 1)), .bl (decide (i = 2))] : List V) ++ ([.bl (decide (i = 3)), .bl (decide (i = 4)), .bl (decide (i = 5))] : List V)) ++ ([.bl (decide (i = 6)), .bl (decide (i = 7)), .bl (decide (i = 8))] : List V)) ++ ([.bl (decide (i = 9)), .bl (decide (i = 10)), .bl (decide (i = 11))] : List V)))) p4 = some (.lst (((([.bl (decide (i = 0)), .bl (decide (i = 1)), .bl (decide (i = 2))] : List V) ++ ([.bl (decide (i = 3)), .bl (decide (i = 4)), .bl (decide (i = 5))] : List V)) ++ ([.bl (decide (i = 6)), .bl (decide (i = 7)), .bl (decide (i = 8))] : List V)) ++ ([.bl (decide (i = 9)), .bl (decide (i = 10)), .bl (decide (i = 11))] : List V))) := upd_same
    generalize upd (upd H3 r4 (HO.lst [.bl (decide (i = 9)), .bl (decide (i = 10)), .bl (decide (i = 11))])) p4 (HO.lst (((([.bl (decide (i = 0)), .bl (decide (i = 1)), .bl (decide (i = 2))] : List V) ++ ([.bl (decide (i = 3)), .bl (decide (i = 4)), .bl (decide (i = 5))] : List V)) ++ ([.bl (decide (i = 6)), .bl (decide (i = 7)), .bl (decide (i = 8))] : List V)) ++ ([.bl (decide (i = 9)), .bl (decide (i = 10)), .bl (decide (i = 11))] : List V))) = H4 at e4 h4 ⊢
    clear n4 m4
    change tSeq _ _ _ [some (.ref a), some (.ref p4), none, none, none] _
    refine ⟨_, rfl, _, rfl, _, _, _, _, .ref (cls 12), _, rfl, (he.mono e4), ET.ec i hi, relRef, ET.is i 12 hi (by decide), _, rfl, _, _, _, _, .ref (cls 13), _, rfl, (he.mono e4), ET.ec i hi, relRef, ET.is i 13 hi (by decide), _, rfl, _, _, _, _, .ref (cls 14), _, rfl, (he.mono e4), ET.ec i hi, relRef, ET.is i 14 hi (by decide), l2 3 (by decide), fun r5 n5 => ⟨_, _, _, _, rfl, rfl, same_new n5 _ _ h4, upd_same, l2 15 (by decide), fun p5 m5 => ?_⟩⟩
    have e5 : Same H (upd (upd H4 r5 (.lst [.bl (decide (i = 12)), .bl (decide (i = 13)), .bl (decide (i = 14))])) p5 (.lst ((((([.bl (decide (i = 0)), .bl (decide (i = 1)), .bl (decide (i = 2))] : List V) ++ ([.bl (decide (i = 3)), .bl (decide (i = 4)), .bl (decide (i = 5))] : List V)) ++ ([.bl (decide (i = 6)), .bl (decide (i = 7)), .bl (decide (i = 8))] : List V)) ++ ([.bl (decide (i = 9)), .bl (decide (i = 10)), .bl (decide (i = 11))] : List V)) ++ ([.bl (decide (i = 12)), .bl (decide (i = 13)), .bl (decide (i = 14))] : List V)))) := (e4.trans (same_new n5)).trans (same_new m5)
    have h5 : (upd (upd H4 r5 (.lst [.bl (decide (i = 12)), .bl (decide (i = 13)), .bl (decide (i = 14))])) p5 (.lst ((((([.bl (decide (i = 0)), .bl (decide (i = 1)), .bl (decide (i = 2))] : List V) ++ ([.bl (decide (i = 3)), .bl (decide (i = 4)), .bl (decide (i = 5))] : List V)) ++ ([.bl (decide (i = 6)), .bl (decide (i = 7)), .bl (decide (i = 8))] : List V)) ++ ([.bl (decide (i = 9)), .bl (decide (i = 10)), .bl (decide (i = 11))] : List V)) ++ ([.bl (decide (i = 12)), .bl (decide (i = 13)), .bl (decide (i = 14))] : List V)))) p5 = some (.lst ((((([.bl (decide (i = 0)), .bl (decide (i = 1)), .bl (decide (i = 2))] : List V) ++ ([.bl (decide (i = 3)), .bl (decide (i = 4)), .bl (decide (i = 5))] : List V)) ++ ([.bl (decide (i = 6)), .bl (decide (i = 7)), .bl (decide (i = 8))] : List V)) ++ ([.bl (decide (i = 9)), .bl (decide (i = 10)), .bl (decide (i = 11))] : List V)) ++ ([.bl (decide (i = 12)), .bl (decide (i = 13)), .bl (decide (i = 14))] : List V))) := upd_same
    generalize upd (upd H4 r5 (HO.lst [.bl (decide (i = 12)), .bl (decide (i = 13)), .bl (decide (i = 14))])) p5 (HO.lst ((((([.bl (decide (i = 0)), .bl (decide (i = 1)), .bl (decide (i = 2))] : List V) ++ ([.bl (decide (i = 3)), .bl (decide (i = 4)), .bl (decide (i = 5))] : List V)) ++ ([.bl (decide (i = 6)), .bl (decide (i = 7)), .bl (decide (i = 8))] : List V)) ++ ([.bl (decide (i = 9)), .bl (decide (i = 10)), .bl (decide (i = 11))] : List V)) ++ ([.bl (decide (i = 12)), .bl (decide (i = 13)), .bl (decide (i = 14))] : List V))) = H5 at e5 h5 ⊢
    clear n5 m5
    change tSeq _ _ _ [some (.ref a), some (.ref p5), none, none, none] _
    refine ⟨_, rfl, _, rfl, _, _, _, _, .ref (cls 15), _, rfl, (he.mono e5), ET.ec i hi, relRef, ET.is i 15 hi (by decide), _, rfl, _, _, _, _, .ref (cls 16), _, rfl, (he.mono e5), ET.ec i hi, relRef, ET.is i 16 hi (by decide), _, rfl, _, _, _, _, .ref (cls 17), _, rfl, (he.mono e5), ET.ec i hi, relRef, ET.is i 17 hi (by decide), l2 3 (by decide), fun r6 n6 => ⟨_, _, _, _, rfl, rfl, same_new n6 _ _ h5, upd_same, l2 18 (by decide), fun p6 m6 => ?_⟩⟩
    have e6 : Same H (upd (upd H5 r6 (.lst [.bl (decide (i = 15)), .bl (decide (i = 16)), .bl (decide (i = 17))])) p6 (.lst (((((([.bl (decide (i = 0)), .bl (decide (i = 1)), .bl (decide (i = 2))] : List V) ++ ([.bl (decide (i = 3)), .bl (decide (i = 4)), .bl (decide (i = 5))] : List V)) ++ ([.bl (decide (i = 6)), .bl (decide (i = 7)), .bl (decide (i = 8))] : List V)) ++ ([.bl (decide (i = 9)), .bl (decide (i = 10)), .bl (decide (i = 11))] : List V)) ++ ([.bl (decide (i = 12)), .bl (decide (i = 13)), .bl (decide (i = 14))] : List V)) ++ ([.bl (decide (i = 15)), .bl (decide (i = 16)), .bl (decide (i = 17))] : List V)))) := (e5.trans (same_new n6)).trans (same_new m6)
    have h6 : (upd (upd H5 r6 (.lst [.bl (decide (i = 15)), .bl (decide (i = 16)), .bl (decide (i = 17))])) p6 (.lst (((((([.bl (decide (i = 0)), .bl (decide (i = 1)), .bl (decide (i = 2))] : List V) ++ ([.bl (decide (i = 3)), .bl (decide (i = 4)), .bl (decide (i = 5))] : List V)) ++ ([.bl (decide (i = 6)), .bl (decide (i = 7)), .bl (decide (i = 8))] : List V)) ++ ([.bl (decide (i = 9)), .bl (decide (i = 10)), .bl (decide (i = 11))] : List V)) ++ ([.bl (decide (i = 12)), .bl (decide (i = 13)), .bl (decide (i = 14))] : List V)) ++ ([.bl (decide (i = 15)), .bl (decide (i = 16)), .bl (decide (i = 17))] : List V)))) p6 = some (.lst (((((([.bl (decide (i = 0)), .bl (decide (i = 1)), .bl (decide (i = 2))] : List V) ++ ([.bl (decide (i = 3)), .bl (decide (i = 4)), .bl (decide (i = 5))] : List V)) ++ ([.bl (decide (i = 6)), .bl (decide (i = 7)), .bl (decide (i = 8))] : List V)) ++ ([.bl (decide (i = 9)), .bl (decide (i = 10)), .bl (decide (i = 11))] : List V)) ++ ([.bl (decide (i = 12)), .bl (decide (i = 13)), .bl (decide (i = 14))] : List V)) ++ ([.bl (decide (i = 15)), .bl (decide (i = 16)), .bl (decide (i = 17))] : List V))) := upd_same
    generalize upd (upd H5 r6 (HO.lst [.bl (decide (i = 15)), .bl (decide (i = 16)), .bl (decide (i = 17))])) p6 (HO.lst (((((([.bl (decide (i = 0)), .bl (decide (i = 1)), .bl (decide (i = 2))] : List V) ++ ([.bl (decide (i = 3)), .bl (decide (i = 4)), .bl (decide (i = 5))] : List V)) ++ ([.bl (decide (i = 6)), .bl (decide (i = 7)), .bl (decide (i = 8))] : List V)) ++ ([.bl (decide (i = 9)), .bl (decide (i = 10)), .bl (decide (i = 11))] : List V)) ++ ([.bl (decide (i = 12)), .bl (decide (i = 13)), .bl (decide (i = 14))] : List V)) ++ ([.bl (decide (i = 15)), .bl (decide (i = 16)), .bl (decide (i = 17))] : List V))) = H6 at e6 h6 ⊢
    clear n6 m6
    change tSeq _ _ _ [some (.ref a), some (.ref p6), none, none, none] _
    refine ⟨_, rfl, _, rfl, _, _, _, _, .ref (cls 18), _, rfl, (he.mono e6), ET.ec i hi, relRef, ET.is i 18 hi (by decide), _, rfl, _, _, _, _, .ref (cls 19), _, rfl, (he.mono e6), ET.ec i hi, relRef, ET.is i 19 hi (by decide), _, rfl, _, _, _, _, .ref (cls 20), _, rfl, (he.mono e6), ET.ec i hi, relRef, ET.is i 20 hi (by decide), l2 3 (by decide), fun r7 n7 => ⟨_, _, _, _, rfl, rfl, same_new n7 _ _ h6, upd_same, l2 21 (by decide), fun p7 m7 => ?_⟩⟩
    have e7 : Same H (upd (upd H6 r7 (.lst [.bl (decide (i = 18)), .bl (decide (i = 19)), .bl (decide (i = 20))])) p7 (.lst ((((((([.bl (decide (i = 0)), .bl (decide (i = 1)), .bl (decide (i = 2))] : List V) ++ ([.bl (decide (i = 3)), .bl (decide (i = 4)), .bl (decide (i = 5))] : List V)) ++ ([.bl (decide (i = 6)), .bl (decide (i = 7)), .bl (decide (i = 8))] : List V)) ++ ([.bl (decide (i = 9)), .bl (decide (i = 10)), .bl (decide (i = 11))] : List V)) ++ ([.bl (decide (i = 12)), .bl (decide (i = 13)), .bl (decide (i = 14))] : List V)) ++ ([.bl (decide (i = 15)), .bl (decide (i = 16)), .bl (decide (i = 17))] : List V)) ++ ([.bl (decide (i = 18)), .bl (decide (i = 19)), .bl (decide (i = 20))] : List V)))) := (e6.trans (same_new n7)).trans (same_new m7)
    have h7 : (upd (upd H6 r7 (.lst [.bl (decide (i = 18)), .bl (decide (i = 19)), .bl (decide (i = 20))])) p7 (.lst ((((((([.bl (decide (i = 0)), .bl (decide (i = 1)), .bl (decide (i = 2))] : List V) ++ ([.bl (decide (i = 3)), .bl (decide (i = 4)), .bl (decide (i = 5))] : List V)) ++ ([.bl (decide (i = 6)), .bl (decide (i = 7)), .bl (decide (i = 8))] : List V)) ++ ([.bl (decide (i = 9)), .bl (decide (i = 10)), .bl (decide (i = 11))] : List V)) ++ ([.bl (decide (i = 12)), .bl (decide (i = 13)), .bl (decide (i = 14))] : List V)) ++ ([.bl (decide (i = 15)), .bl (decide (i = 16)), .bl (decide (i = 17))] : List V)) ++ ([.bl (decide (i = 18)), .bl (decide (i = 19)), .bl (decide (i = 20))] : List V)))) p7 = some (.lst ((((((([.bl (decide (i = 0)), .bl (decide (i = 1)), .bl (decide (i = 2))] : List V) ++ ([.bl (decide (i = 3)), .bl (decide (i = 4)), .bl (decide (i = 5))] : List V)) ++ ([.bl (decide (i = 6)), .bl (decide (i = 7)), .bl (decide (i = 8))] : List V)) ++ ([.bl (decide (i = 9)), .bl (decide (i = 10)), .bl (decide (i = 11))] : List V)) ++ ([.bl (decide (i = 12)), .bl (decide (i = 13)), .bl (decide (i = 14))] : List V)) ++ ([.bl (decide (i = 15)), .bl (decide (i = 16)), .bl (decide (i = 17))] : List V)) ++ ([.bl (decide (i = 18)), .bl (decide (i = 19)), .bl (decide (i = 20))] : List V))) := upd_same
    generalize upd (upd H6 r7 (HO.lst [.bl (decide (i = 18)), .bl (decide (i = 19)), .bl (decide (i = 20))])) p7 (HO.lst ((((((([.bl (decide (i = 0)), .bl (decide (i = 1)), .bl (decide (i = 2))] : List V) ++ ([.bl (decide (i = 3)), .bl (decide (i = 4)), .bl (decide (i = 5))] : List V)) ++ ([.bl (decide (i = 6)), .bl (decide (i = 7)), .bl (decide (i = 8))] : List V)) ++ ([.bl (decide (i = 9)), .bl (decide (i = 10)), .bl (decide (i = 11))] : List V)) ++ ([.bl (decide (i = 12)), .bl (decide (i = 13)), .bl (decide (i = 14))] : List V)) ++ ([.bl (decide (i = 15)), .bl (decide (i = 16)), .bl (decide (i = 17))] : List V)) ++ ([.bl (decide (i = 18)), .bl (decide (i = 19)), .bl (decide (i = 20))] : List V))) = H7 at e7 h7 ⊢
    clear n7 m7
    change tSeq _ _ _ [some (.ref a), some (.ref p7), none, none, none] _
    refine ⟨_, rfl, _, rfl, _, _, _, _, .ref (cls 21), _, rfl, (he.mono e7), ET.ec i hi, relRef, ET.is i 21 hi (by decide), _, rfl, _, _, _, _, .ref (cls 22), _, rfl, (he.mono e7), ET.ec i hi, relRef, ET.is i 22 hi (by decide), _, rfl, _, _, _, _, .ref (cls 23), _, rfl, (he.mono e7), ET.ec i hi, relRef, ET.is i 23 hi (by decide), l2 3 (by decide), fun r8 n8 => ⟨_, _, _, _, rfl, rfl, same_new n8 _ _ h7, upd_same, l2 24 (by decide), fun p8 m8 => ?_⟩⟩
    have e8 : Same H (upd (upd H7 r8 (.lst [.bl (decide (i = 21)), .bl (decide (i = 22)), .bl (decide (i = 23))])) p8 (.lst (((((((([.bl (decide (i = 0)), .bl (decide (i = 1)), .bl (decide (i = 2))] : List V) ++ ([.bl (decide (i = 3)), .bl (decide (i = 4)), .bl (decide (i = 5))] : List V)) ++ ([.bl (decide (i = 6)), .bl (decide (i = 7)), .bl (decide (i = 8))] : List V)) ++ ([.bl (decide (i = 9)), .bl (decide (i = 10)), .bl (decide (i = 11))] : List V)) ++ ([.bl (decide (i = 12)), .bl (decide (i = 13)), .bl (decide (i = 14))] : List V)) ++ ([.bl (decide (i = 15)), .bl (decide (i = 16)), .bl (decide (i = 17))] : List V)) ++ ([.bl (decide (i = 18)), .bl (decide (i = 19)), .bl (decide (i = 20))] : List V)) ++ ([.bl (decide (i = 21)), .bl (decide (i = 22)), .bl (decide (i = 23))] : List V)))) := (e7.trans (same_new n8)).trans (same_new m8)
    have h8 : (upd (upd H7 r8 (.lst [.bl (decide (i = 21)), .bl (decide (i = 22)), .bl (decide (i = 23))])) p8 (.lst (((((((([.bl (decide (i = 0)), .bl (decide (i = 1)), .bl (decide (i = 2))] : List V) ++ ([.bl (decide (i = 3)), .bl (decide (i = 4)), .bl (decide (i = 5))] : List V)) ++ ([.bl (decide (i = 6)), .bl (decide (i = 7)), .bl (decide (i = 8))] : List V)) ++ ([.bl (decide (i = 9)), .bl (decide (i = 10)), .bl (decide (i = 11))] : List V)) ++ ([.bl (decide (i = 12)), .bl (decide (i = 13)), .bl (decide (i = 14))] : List V)) ++ ([.bl (decide (i = 15)), .bl (decide (i = 16)), .bl (decide (i = 17))] : List V)) ++ ([.bl (decide (i = 18)), .bl (decide (i = 19)), .bl (decide (i = 20))] : List V)) ++ ([.bl (decide (i = 21)), .bl (decide (i = 22)), .bl (decide (i = 23))] : List V)))) p8 = some (.lst (((((((([.bl (decide (i = 0)), .bl (decide (i = 1)), .bl (decide (i = 2))] : List V) ++ ([.bl (decide (i = 3)), .bl (decide (i = 4)), .bl (decide (i = 5))] : List V)) ++ ([.bl (decide (i = 6)), .bl (decide (i = 7)), .bl (decide (i = 8))] : List V)) ++ ([.bl (decide (i = 9)), .bl (decide (i = 10)), .bl (decide (i = 11))] : List V)) ++ ([.bl (decide (i = 12)), .bl (decide (i = 13)), .bl (decide (i = 14))] : List V)) ++ ([.bl (decide (i = 15)), .bl (decide (i = 16)), .bl (decide (i = 17))] : List V)) ++ ([.bl (decide (i = 18)), .bl (decide (i = 19)), .bl (decide (i = 20))] : List V)) ++ ([.bl (decide (i = 21)), .bl (decide (i = 22)), .bl (decide (i = 23))] : List V))) := upd_same
    generalize upd (upd H7 r8 (HO.lst [.bl (decide (i = 21)), .bl (decide (i = 22)), .bl (decide (i = 23))])) p8 (HO.lst (((((((([.bl (decide (i = 0)), .bl (decide (i = 1)), .bl (decide (i = 2))] : List V) ++ ([.bl (decide (i = 3)), .bl (decide (i = 4)), .bl (decide (i = 5))] : List V)) ++ ([.bl (decide (i = 6)), .bl (decide (i = 7)), .bl (decide (i = 8))] : List V)) ++ ([.bl (decide (i = 9)), .bl (decide (i = 10)), .bl (decide (i = 11))] : List V)) ++ ([.bl (decide (i = 12)), .bl (decide (i = 13)), .bl (decide (i = 14))] : List V)) ++ ([.bl (decide (i = 15)), .bl (decide (i = 16)), .bl (decide (i = 17))] : List V)) ++ ([.bl (decide (i = 18)), .bl (decide (i = 19)), .bl (decide (i = 20))] : List V)) ++ ([.bl (decide (i = 21)), .bl (decide (i = 22)), .bl (decide (i = 23))] : List V))) = H8 at e8 h8 ⊢
    clear n8 m8
    change tSeq _ _ _ [some (.ref a), some (.ref p8), none, none, none] _
    refine ⟨_, rfl, _, rfl, _, _, _, _, .ref (cls 24), _, rfl, (he.mono e8), ET.ec i hi, relRef, ET.is i 24 hi (by decide), _, rfl, _, _, _, _, .ref (cls 25), _, rfl, (he.mono e8), ET.ec i hi, relRef, ET.is i 25 hi (by decide), _, rfl, _, _, _, _, .ref (cls 26), _, rfl, (he.mono e8), ET.ec i hi, relRef, ET.is i 26 hi (by decide), l2 3 (by decide), fun r9 n9 => ⟨_, _, _, _, rfl, rfl, same_new n9 _ _ h8, upd_same, l2 27 (by decide), fun p9 m9 => ?_⟩⟩
    have e9 : Same H (upd (upd H8 r9 (.lst [.bl (decide (i = 24)), .bl (decide (i = 25)), .bl (decide (i = 26))])) p9 (.lst ((((((((([.bl (decide (i = 0)), .bl (decide (i = 1)), .bl (decide (i = 2))] : List V) ++ ([.bl (decide (i = 3)), .bl (decide (i = 4)), .bl (decide (i = 5))] : List V)) ++ ([.bl (decide (i = 6)), .bl (decide (i = 7)), .bl (decide (i = 8))] : List V)) ++ ([.bl (decide (i = 9)), .bl (decide (i = 10)), .bl (decide (i = 11))] : List V)) ++ ([.bl (decide (i = 12)), .bl (decide (i = 13)), .bl (decide (i = 14))] : List V)) ++ ([.bl (decide (i = 15)), .bl (decide (i = 16)), .bl (decide (i = 17))] : List V)) ++ ([.bl (decide (i = 18)), .bl (decide (i = 19)), .bl (decide (i = 20))] : List V)) ++ ([.bl (decide (i = 21)), .bl (decide (i = 22)), .bl (decide (i = 23))] : List V)) ++ ([.bl (decide (i = 24)), .bl (decide (i = 25)), .bl (decide (i = 26))] : List V)))) := (e8.trans (same_new n9)).trans (same_new m9)
    have h9 : (upd (upd H8 r9 (.lst [.bl (decide (i = 24)), .bl (decide (i = 25)), .bl (decide (i = 26))])) p9 (.lst ((((((((([.bl (decide (i = 0)), .bl (decide (i = 1)), .bl (decide (i = 2))] : List V) ++ ([.bl (decide (i = 3)), .bl (decide (i = 4)), .bl (decide (i = 5))] : List V)) ++ ([.bl (decide (i = 6)), .bl (decide (i = 7)), .bl (decide (i = 8))] : List V)) ++ ([.bl (decide (i = 9)), .bl (decide (i = 10)), .bl (decide (i = 11))] : List V)) ++ ([.bl (decide (i = 12)), .bl (decide (i = 13)), .bl (decide (i = 14))] : List V)) ++ ([.bl (decide (i = 15)), .bl (decide (i = 16)), .bl (decide (i = 17))] : List V)) ++ ([.bl (decide (i = 18)), .bl (decide (i = 19)), .bl (decide (i = 20))] : List V)) ++ ([.bl (decide (i = 21)), .bl (decide (i = 22)), .bl (decide (i = 23))] : List V)) ++ ([.bl (decide (i = 24)), .bl (decide (i = 25)), .bl (decide (i = 26))] : List V)))) p9 = some (.lst ((((((((([.bl (decide (i = 0)), .bl (decide (i = 1)), .bl (decide (i = 2))] : List V) ++ ([.bl (decide (i = 3)), .bl (decide (i = 4)), .bl (decide (i = 5))] : List V)) ++ ([.bl (decide (i = 6)), .bl (decide (i = 7)), .bl (decide (i = 8))] : List V)) ++ ([.bl (decide (i = 9)), .bl (decide (i = 10)), .bl (decide (i = 11))] : List V)) ++ ([.bl (decide (i = 12)), .bl (decide (i = 13)), .bl (decide (i = 14))] : List V)) ++ ([.bl (decide (i = 15)), .bl (decide (i = 16)), .bl (decide (i = 17))] : List V)) ++ ([.bl (decide (i = 18)), .bl (decide (i = 19)), .bl (decide (i = 20))] : List V)) ++ ([.bl (decide (i = 21)), .bl (decide (i = 22)), .bl (decide (i = 23))] : List V)) ++ ([.bl (decide (i = 24)), .bl (decide (i = 25)), .bl (decide (i = 26))] : List V))) := upd_same
    generalize upd (upd H8 r9 (HO.lst [.bl (decide (i = 24)), .bl (decide (i = 25)), .bl (decide (i = 26))])) p9 (HO.lst ((((((((([.bl (decide (i = 0)), .bl (decide (i = 1)), .bl (decide (i = 2))] : List V) ++ ([.bl (decide (i = 3)), .bl (decide (i = 4)), .bl (decide (i = 5))] : List V)) ++ ([.bl (decide (i = 6)), .bl (decide (i = 7)), .bl (decide (i = 8))] : List V)) ++ ([.bl (decide (i = 9)), .bl (decide (i = 10)), .bl (decide (i = 11))] : List V)) ++ ([.bl (decide (i = 12)), .bl (decide (i = 13)), .bl (decide (i = 14))] : List V)) ++ ([.bl (decide (i = 15)), .bl (decide (i = 16)), .bl (decide (i = 17))] : List V)) ++ ([.bl (decide (i = 18)), .bl (decide (i = 19)), .bl (decide (i = 20))] : List V)) ++ ([.bl (decide (i = 21)), .bl (decide (i = 22)), .bl (decide (i = 23))] : List V)) ++ ([.bl (decide (i = 24)), .bl (decide (i = 25)), .bl (decide (i = 26))] : List V))) = H9 at e9 h9 ⊢
    clear n9 m9
    change tSeq _ _ _ [some (.ref a), some (.ref p9), none, none, none] _
    refine ⟨_, rfl, _, rfl, _, _, _, _, .ref (cls 27), _, rfl, (he.mono e9), ET.ec i hi, relRef, ET.is i 27 hi (by decide), _, rfl, _, _, _, _, .ref (cls 28), _, rfl, (he.mono e9), ET.ec i hi, relRef, ET.is i 28 hi (by decide), _, rfl, _, _, _, _, .ref (cls 29), _, rfl, (he.mono e9), ET.ec i hi, relRef, ET.is i 29 hi (by decide), l2 3 (by decide), fun r10 n10 => ⟨_, _, _, _, rfl, rfl, same_new n10 _ _ h9, upd_same, l2 30 (by decide), fun p10 m10 => ?_⟩⟩
    have e10 : Same H (upd (upd H9 r10 (.lst [.bl (decide (i = 27)), .bl (decide (i = 28)), .bl (decide (i = 29))])) p10 (.lst (((((((((([.bl (decide (i = 0)), .bl (decide (i = 1)), .bl (decide (i = 2))] : List V) ++ ([.bl (decide (i = 3)), .bl (decide (i = 4)), .bl (decide (i = 5))] : List V)) ++ ([.bl (decide (i = 6)), .bl (decide (i = 7)), .bl (decide (i = 8))] : List V)) ++ ([.bl (decide (i = 9)), .bl (decide (i = 10)), .bl (decide (i = 11))] : List V)) ++ ([.bl (decide (i = 12)), .bl (decide (i = 13)), .bl (decide (i = 14))] : List V)) ++ ([.bl (decide (i = 15)), .bl (decide (i = 16)), .bl (decide (i = 17))] : List V)) ++ ([.bl (decide (i = 18)), .bl (decide (i = 19)), .bl (decide (i = 20))] : List V)) ++ ([.bl (decide (i = 21)), .bl (decide (i = 22)), .bl (decide (i = 23))] : List V)) ++ ([.bl (decide (i = 24)), .bl (decide (i = 25)), .bl (decide (i = 26))] : List V)) ++ ([.bl (decide (i = 27)), .bl (decide (i = 28)), .bl (decide (i = 29))] : List V)))) := (e9.trans (same_new n10)).trans (same_new m10)
    have h10 : (upd (upd H9 r10 (.lst [.bl (decide (i = 27)), .bl (decide (i = 28)), .bl (decide (i = 29))])) p10 (.lst (((((((((([.bl (decide (i = 0)), .bl (decide (i = 1)), .bl (decide (i = 2))] : List V) ++ ([.bl (decide (i = 3)), .bl (decide (i = 4)), .bl (decide (i = 5))] : List V)) ++ ([.bl (decide (i = 6)), .bl (decide (i = 7)), .bl (decide (i = 8))] : List V)) ++ ([.bl (decide (i = 9)), .bl (decide (i = 10)), .bl (decide (i = 11))] : List V)) ++ ([.bl (decide (i = 12)), .bl (decide (i = 13)), .bl (decide (i = 14))] : List V)) ++ ([.bl (decide (i = 15)), .bl (decide (i = 16)), .bl (decide (i = 17))] : List V)) ++ ([.bl (decide (i = 18)), .bl (decide (i = 19)), .bl (decide (i = 20))] : List V)) ++ ([.bl (decide (i = 21)), .bl (decide (i = 22)), .bl (decide (i = 23))] : List V)) ++ ([.bl (decide (i = 24)), .bl (decide (i = 25)), .bl (decide (i = 26))] : List V)) ++ ([.bl (decide (i = 27)), .bl (decide (i = 28)), .bl (decide (i = 29))] : List V)))) p10 = some (.lst (((((((((([.bl (decide (i = 0)), .bl (decide (i = 1)), .bl (decide (i = 2))] : List V) ++ ([.bl (decide (i = 3)), .bl (decide (i = 4)), .bl (decide (i = 5))] : List V)) ++ ([.bl (decide (i = 6)), .bl (decide (i = 7)), .bl (decide (i = 8))] : List V)) ++ ([.bl (decide (i = 9)), .bl (decide (i = 10)), .bl (decide (i = 11))] : List V)) ++ ([.bl (decide (i = 12)), .bl (decide (i = 13)), .bl (decide (i = 14))] : List V)) ++ ([.bl (decide (i = 15)), .bl (decide (i = 16)), .bl (decide (i = 17))] : List V)) ++ ([.bl (decide (i = 18)), .bl (decide (i = 19)), .bl (decide (i = 20))] : List V)) ++ ([.bl (decide (i = 21)), .bl (decide (i = 22)), .bl (decide (i = 23))] : List V)) ++ ([.bl (decide (i = 24)), .bl (decide (i = 25)), .bl (decide (i = 26))] : List V)) ++ ([.bl (decide (i = 27)), .bl (decide (i = 28)), .bl (decide (i = 29))] : List V))) := upd_same
    generalize upd (upd H9 r10 (HO.lst [.bl (decide (i = 27)), .bl (decide (i = 28)), .bl (decide (i = 29))])) p10 (HO.lst (((((((((([.bl (decide (i = 0)), .bl (decide (i = 1)), .bl (decide (i = 2))] : List V) ++ ([.bl (decide (i = 3)), .bl (decide (i = 4)), .bl (decide (i = 5))] : List V)) ++ ([.bl (decide (i = 6)), .bl (decide (i = 7)), .bl (decide (i = 8))] : List V)) ++ ([.bl (decide (i = 9)), .bl (decide (i = 10)), .bl (decide (i = 11))] : List V)) ++ ([.bl (decide (i = 12)), .bl (decide (i = 13)), .bl (decide (i = 14))] : List V)) ++ ([.bl (decide (i = 15)), .bl (decide (i = 16)), .bl (decide (i = 17))] : List V)) ++ ([.bl (decide (i = 18)), .bl (decide (i = 19)), .bl (decide (i = 20))] : List V)) ++ ([.bl (decide (i = 21)), .bl (decide (i = 22)), .bl (decide (i = 23))] : List V)) ++ ([.bl (decide (i = 24)), .bl (decide (i = 25)), .bl (decide (i = 26))] : List V)) ++ ([.bl (decide (i = 27)), .bl (decide (i = 28)), .bl (decide (i = 29))] : List V))) = H10 at e10 h10 ⊢
    clear n10 m10
    change tSeq _ _ _ [some (.ref a), some (.ref p10), none, none, none] _
    refine ⟨_, rfl, _, rfl, _, _, _, _, .ref (cls 30), _, rfl, (he.mono e10), ET.ec i hi, relRef, ET.is i 30 hi (by decide), _, rfl, _, _, _, _, .ref (cls 31), _, rfl, (he.mono e10), ET.ec i hi, relRef, ET.is i 31 hi (by decide), l2 2 (by decide), fun r11 n11 => ⟨_, _, _, _, rfl, rfl, same_new n11 _ _ h10, upd_same, l2 32 (by decide), fun p11 m11 => ?_⟩⟩
    have e11 : Same H (upd (upd H10 r11 (.lst [.bl (decide (i = 30)), .bl (decide (i = 31))])) p11 (.lst ((((((((((([.bl (decide (i = 0)), .bl (decide (i = 1)), .bl (decide (i = 2))] : List V) ++ ([.bl (decide (i = 3)), .bl (decide (i = 4)), .bl (decide (i = 5))] : List V)) ++ ([.bl (decide (i = 6)), .bl (decide (i = 7)), .bl (decide (i = 8))] : List V)) ++ ([.bl (decide (i = 9)), .bl (decide (i = 10)), .bl (decide (i = 11))] : List V)) ++ ([.bl (decide (i = 12)), .bl (decide (i = 13)), .bl (decide (i = 14))] : List V)) ++ ([.bl (decide (i = 15)), .bl (decide (i = 16)), .bl (decide (i = 17))] : List V)) ++ ([.bl (decide (i = 18)), .bl (decide (i = 19)), .bl (decide (i = 20))] : List V)) ++ ([.bl (decide (i = 21)), .bl (decide (i = 22)), .bl (decide (i = 23))] : List V)) ++ ([.bl (decide (i = 24)), .bl (decide (i = 25)), .bl (decide (i = 26))] : List V)) ++ ([.bl (decide (i = 27)), .bl (decide (i = 28)), .bl (decide (i = 29))] : List V)) ++ ([.bl (decide (i = 30)), .bl (decide (i = 31))] : List V)))) := (e10.trans (same_new n11)).trans (same_new m11)
    have h11 : (upd (upd H10 r11 (.lst [.bl (decide (i = 30)), .bl (decide (i = 31))])) p11 (.lst ((((((((((([.bl (decide (i = 0)), .bl (decide (i = 1)), .bl (decide (i = 2))] : List V) ++ ([.bl (decide (i = 3)), .bl (decide (i = 4)), .bl (decide (i = 5))] : List V)) ++ ([.bl (decide (i = 6)), .bl (decide (i = 7)), .bl (decide (i = 8))] : List V)) ++ ([.bl (decide (i = 9)), .bl (decide (i = 10)), .bl (decide (i = 11))] : List V)) ++ ([.bl (decide (i = 12)), .bl (decide (i = 13)), .bl (decide (i = 14))] : List V)) ++ ([.bl (decide (i = 15)), .bl (decide (i = 16)), .bl (decide (i = 17))] : List V)) ++ ([.bl (decide (i = 18)), .bl (decide (i = 19)), .bl (decide (i = 20))] : List V)) ++ ([.bl (decide (i = 21)), .bl (decide (i = 22)), .bl (decide (i = 23))] : List V)) ++ ([.bl (decide (i = 24)), .bl (decide (i = 25)), .bl (decide (i = 26))] : List V)) ++ ([.bl (decide (i = 27)), .bl (decide (i = 28)), .bl (decide (i = 29))] : List V)) ++ ([.bl (decide (i = 30)), .bl (decide (i = 31))] : List V)))) p11 = some (.lst ((((((((((([.bl (decide (i = 0)), .bl (decide (i = 1)), .bl (decide (i = 2))] : List V) ++ ([.bl (decide (i = 3)), .bl (decide (i = 4)), .bl (decide (i = 5))] : List V)) ++ ([.bl (decide (i = 6)), .bl (decide (i = 7)), .bl (decide (i = 8))] : List V)) ++ ([.bl (decide (i = 9)), .bl (decide (i = 10)), .bl (decide (i = 11))] : List V)) ++ ([.bl (decide (i = 12)), .bl (decide (i = 13)), .bl (decide (i = 14))] : List V)) ++ ([.bl (decide (i = 15)), .bl (decide (i = 16)), .bl (decide (i = 17))] : List V)) ++ ([.bl (decide (i = 18)), .bl (decide (i = 19)), .bl (decide (i = 20))] : List V)) ++ ([.bl (decide (i = 21)), .bl (decide (i = 22)), .bl (decide (i = 23))] : List V)) ++ ([.bl (decide (i = 24)), .bl (decide (i = 25)), .bl (decide (i = 26))] : List V)) ++ ([.bl (decide (i = 27)), .bl (decide (i = 28)), .bl (decide (i = 29))] : List V)) ++ ([.bl (decide (i = 30)), .bl (decide (i = 31))] : List V))) := upd_same
    generalize upd (upd H10 r11 (HO.lst [.bl (decide (i = 30)), .bl (decide (i = 31))])) p11 (HO.lst ((((((((((([.bl (decide (i = 0)), .bl (decide (i = 1)), .bl (decide (i = 2))] : List V) ++ ([.bl (decide (i = 3)), .bl (decide (i = 4)), .bl (decide (i = 5))] : List V)) ++ ([.bl (decide (i = 6)), .bl (decide (i = 7)), .bl (decide (i = 8))] : List V)) ++ ([.bl (decide (i = 9)), .bl (decide (i = 10)), .bl (decide (i = 11))] : List V)) ++ ([.bl (decide (i = 12)), .bl (decide (i = 13)), .bl (decide (i = 14))] : List V)) ++ ([.bl (decide (i = 15)), .bl (decide (i = 16)), .bl (decide (i = 17))] : List V)) ++ ([.bl (decide (i = 18)), .bl (decide (i = 19)), .bl (decide (i = 20))] : List V)) ++ ([.bl (decide (i = 21)), .bl (decide (i = 22)), .bl (decide (i = 23))] : List V)) ++ ([.bl (decide (i = 24)), .bl (decide (i = 25)), .bl (decide (i = 26))] : List V)) ++ ([.bl (decide (i = 27)), .bl (decide (i = 28)), .bl (decide (i = 29))] : List V)) ++ ([.bl (decide (i = 30)), .bl (decide (i = 31))] : List V))) = H11 at e11 h11 ⊢
    clear n11 m11
    change tSeq _ _ _ [some (.ref a), some (.ref p11), none, none, none] _
    have hq : H11 p11 = some (.lst (bools i)) := h11
    refine ⟨_, rfl, _, _, _, _, .ref (bas 0), _, rfl, (he.mono e11), ET.ec i hi, relRef, ET.bs i 0 hi (by decide), _, rfl, _, _, _, _, .ref (bas 1), _, rfl, (he.mono e11), ET.ec i hi, relRef, ET.bs i 1 hi (by decide), _, rfl, _, _, _, _, .ref (bas 2), _, rfl, (he.mono e11), ET.ec i hi, relRef, ET.bs i 2 hi (by decide), l2 3 (by decide), fun b1 c1 => ?_⟩
    have g1 := same_new c1 (o := .lst [.bl (decide (famE i = 0)), .bl (decide (famE i = 1)), .bl (decide (famE i = 2))])
    change tSeq _ _ _ [some (.ref a), some (.ref p11), some (.ref b1), none, none] _
    refine ⟨_, rfl, _, _, _, _, .type "ValueError", _, rfl, (he.mono (e11.trans g1)), ET.ec i hi, relTy, ET.bt i 0 "ValueError" hi rfl, _, rfl, _, _, _, _, .type "LookupError", _, rfl, (he.mono (e11.trans g1)), ET.ec i hi, relTy, ET.bt i 1 "LookupError" hi rfl, _, rfl, _, _, _, _, .type "ArithmeticError", _, rfl, (he.mono (e11.trans g1)), ET.ec i hi, relTy, ET.bt i 2 "ArithmeticError" hi rfl, l2 3 (by decide), fun b2 c2 => ?_⟩
    have g2 := same_new c2 (o := .lst [.bl (decide (famE i = 0)), .bl (decide (famE i = 1)), .bl (decide (famE i = 2))])
    clear h10 e10 h9 e9 h8 e8 h7 e7 h6 e6 h5 e5 h4 e4 h3 e3 h2 e2 h1 e1
    change tSeq _ _ _ [some (.ref a), some (.ref p11), some (.ref b1), some (.ref b2), none] _
    have eF := (e11.trans g1).trans g2
    have z1 := g2 _ _ (g1 _ _ hq)
    have z2 := g2 _ _ (upd_same (H := H11) (a := b1) (o := .lst [.bl (decide (famE i = 0)), .bl (decide (famE i = 1)), .bl (decide (famE i = 2))]))
    have z3 := upd_same (H := upd H11 b1 (.lst [.bl (decide (famE i = 0)), .bl (decide (famE i = 1)), .bl (decide (famE i = 2))])) (a := b2) (o := .lst [.bl (decide (famE i = 0)), .bl (decide (famE i = 1)), .bl (decide (famE i = 2))])
    clear g1 g2 c1 c2 h11 hq e11
    generalize upd (upd H11 b1 _) b2 _ = HF at eF z1 z2 z3 ⊢
    have d1 : Dp K HF (.ref b1) (famD i) := .lst (SqL.of z2) (.cons (.bl _) (.cons (.bl _) (.cons (.bl _) .nil)))
    have d2 : Dp K HF (.ref b2) (famD i) := .lst (SqL.of z3) (.cons (.bl _) (.cons (.bl _) (.cons (.bl _) .nil)))
    have fb : (bools i).all flatV = true := by simp [bools, flatV]
    refine ⟨_, rfl, (.inl ⟨rfl, _, SqL.of z1⟩), p11, bools i, .bl true, rfl, rfl, SqL.of z1, rfl, fb, ?_⟩
    rw [bools_count i hi]
    refine ⟨rfl, _, rfl, ?_⟩
    refine iteF ⟨_, rfl, _, rfl, _, _, d2, d1, rfl, rfl, _, rfl, ?_⟩
    rw [famD_eq]
    refine iteF ?_
    refine ⟨_, rfl, (.inl ⟨rfl, _, SqL.of z1⟩), p11, bools i, .bl true, i, _, rfl, rfl, SqL.of z1, rfl, fb, bools_get i i hi, (by simp [eqV]), fun m z' hm hz => ?_, ?_⟩
    · rw [bools_get i m (by omega)] at hz
      cases hz
      have : ¬ i = m := by omega
      simp [eqV, this]
    refine ⟨_, rfl, _, rfl, _, _, rfl, rfl, _, rfl, _, _, rfl, rfl, _, rfl, ?_⟩
    have fin : ∀ (x : Bool), x = decide (19 < i ∧ i < 31) → ∀ (y : Bool), y = decide (i = 31) → ∀ b3, HF b3 = none → ∃ d e, Dp K (upd HF b3 (.lst [.bl (decide ((i : Int) < 20)), .bl x, .bl y])) (.ref b1) d ∧ Dp K (upd HF b3 (.lst [.bl (decide ((i : Int) < 20)), .bl x, .bl y])) (.ref b3) e ∧ SeqAt.shaped d = true ∧ SeqAt.shaped e = true ∧ PyData.eqv d e = true := by
      intro x hx y hy b3 n3
      refine ⟨_, _, .lst (SqL.of (same_new n3 _ _ z2)) (.cons (.bl _) (.cons (.bl _) (.cons (.bl _) .nil))), .lst (SqL.of upd_same) (.cons (.bl _) (.cons (.bl _) (.cons (.bl _) .nil))), rfl, rfl, ?_⟩
      subst hx hy
      exact famD_at i hi
    refine ite2 (fun c => ?_) (fun c => ?_)
    · have c1 : (19 : Int) < i := of_decide_eq_true c
      refine ⟨_, _, rfl, rfl, _, rfl, rfl, l2 3 (by decide), fun b3 n3 => ?_⟩
      obtain ⟨d, e, y1, y2, y3, y4, y5⟩ := fin (decide ((i : Int) < 31)) (by rw [Bool.eq_iff_iff]; simp; omega) (decide (V.int i = V.int 31)) (by rw [Bool.eq_iff_iff]; simp; omega) b3 n3
      exact ⟨d, e, y1, y2, y3, y4, _, rfl, by rw [y5]; exact iteT ⟨_, rfl, q _ (eF.trans (same_new n3))⟩⟩
    · have c1 : ¬ (19 : Int) < i := fun z => c (decide_eq_true z)
      refine ⟨_, rfl, rfl, l2 3 (by decide), fun b3 n3 => ?_⟩
      obtain ⟨d, e, y1, y2, y3, y4, y5⟩ := fin false (by symm; rw [Bool.eq_false_iff]; simp; omega) (decide (V.int i = V.int 31)) (by rw [Bool.eq_iff_iff]; simp; omega) b3 n3
      exact ⟨d, e, y1, y2, y3, y4, _, rfl, by rw [y5]; exact iteT ⟨_, rfl, q _ (eF.trans (same_new n3))⟩⟩

end
end Z
set_option Elab.async false
set_option linter.all false
set_option autoImplicit false
set_option maxRecDepth 100000
set_option maxHeartbeats 4000000
namespace Z
open PySem PySem.Spec PyProof.Rows L2
def ShowOk (d : PyData) : Prop := d.showable = true ∧ d.shown.length ≤ sizeLine ∧ d.depth ≤ 64
def spField (K : PySem.W.Frag) (cls : Nat → Addr) : Sp := fun vs H Q _ => ∃ a i fs n fo z, vs = [.ref a, .int (i : Nat)] ∧ errs[i]? = some (n, fo) ∧ Err H a (cls i) fs ∧
  (match fo with
    | none => z = ("" : Str)
    | some f => ∃ y d, fs = [(f, y)] ∧ Da K H y d ∧ ShowOk d ∧ z = d.shown) ∧ ∀ H', Same H H' → Q (.str z) H'
abbrev fldOf (i : Nat) : Option (Option Str) := (errs[i]?).map (·.2)
theorem fld1 : ∀ i < 32, inV (.int (i : Nat)) [.int 0, .int 8, .int 20, .int 21, .int 22] = true → fldOf i = some (some ("name" : Str)) := by decide
theorem fld2 : ∀ i < 32, inV (.int (i : Nat)) [.int 1, .int 2, .int 3, .int 7, .int 10, .int 13, .int 25] = true → fldOf i = some (some ("index" : Str)) := by decide
theorem fld3 : ∀ i < 32, inV (.int (i : Nat)) [.int 4, .int 15, .int 16, .int 17, .int 18, .int 19] = true → fldOf i = some (some ("value" : Str)) := by decide
theorem fld4 : ∀ i < 32, inV (.int (i : Nat)) [.int 5, .int 6, .int 11] = true → fldOf i = some (some ("path" : Str)) := by decide
theorem fld5 : ∀ i < 32, inV (.int (i : Nat)) [.int 9, .int 12, .int 14] = true → (i = 9 ∧ fldOf i = some (some ("number" : Str))) ∨ (i = 12 ∧ fldOf i = some (some ("text" : Str))) ∨ (i = 14 ∧ fldOf i = some (some ("line" : Str))) := by decide
theorem fld6 : ∀ i < 32, (inV (.int (i : Nat)) [.int 0, .int 8, .int 20, .int 21, .int 22] || (inV (.int (i : Nat)) [.int 1, .int 2, .int 3, .int 7, .int 10, .int 13, .int 25] || (inV (.int (i : Nat)) [.int 4, .int 15, .int 16, .int 17, .int 18, .int 19] ||
  (inV (.int (i : Nat)) [.int 5, .int 6, .int 11] || inV (.int (i : Nat)) [.int 9, .int 12, .int 14])))) = false → (i = 23 ∧ fldOf i = some (some ("word" : Str))) ∨ (i = 31 ∧ fldOf i = some (some ("limit" : Str))) ∨ ((i == 23) = false ∧ (i == 31) = false ∧ fldOf i = some none) := by decide
section
variable {P : Program} {w : World} {K : PySem.W.Frag} {mg : Str → Option Value} {base : Heap} {cls bas : Nat → Addr} {H : Hp} {a : Addr} {fs : List (Str × V)} {i : Nat}
theorem kn__law_field (D : Def0 K mg "_law_field" (top 41)) (T : Txt K mg) (ET : ErrT P w K mg base cls bas) : KnG P w K mg base CX0 "_law_field" 1 ["e", "at"] [] (spField K cls) := by
  obtain ⟨f, fd, F, m⟩ := D
  have sc_ : FnScope ["e", "at"] ["e", "at"] (defScope (top 41)) := ⟨rfl, rfl, rfl, by decide +kernel, rfl, by decide +kernel, by decide +kernel⟩
  refine kn_ofG F m (okG F sc_ (fun vs H Q E h => ?_) (fun cdv A outer s H vs Q E hr st h => ?_)) (F.bindsN fun _ _ _ _ _ _ us hl => match us, hl with | [_, _], _ => rfl)
  · obtain ⟨a, i, fs, n, fo, z, rfl, _⟩ := h; rfl
  · obtain ⟨a, i, fs, n, fo, z, rfl, ei, he, hz, q⟩ := h
    refine ⟨_, PSs.nox (pss_cons (ps_if (pt_cmpR (k_in (K := K)) (pv 1) (pe_lst (pa_cons pe_int (pa_cons pe_int (pa_cons pe_int (pa_cons pe_int (pa_cons pe_int pa_nil)))))) (by rfl)) (pss_one (ps_ret (pe_callB (k_repr (K := K) hr st) (by rfl) T.z_repr (by decide +kernel) (pa_cons (k_errF (K := K) (pv 0) rfl) pa_nil)))) pss_nil)
      (pss_cons (ps_if (pt_cmpR (k_in (K := K)) (pv 1) (pe_lst (pa_cons pe_int (pa_cons pe_int (pa_cons pe_int (pa_cons pe_int (pa_cons pe_int (pa_cons pe_int (pa_cons pe_int pa_nil)))))))) (by rfl)) (pss_one (ps_ret (pe_callB (k_repr (K := K) hr st) (by rfl) T.z_repr (by decide +kernel) (pa_cons (k_errF (K := K) (pv 0) rfl) pa_nil)))) pss_nil)
      (pss_cons (ps_if (pt_cmpR (k_in (K := K)) (pv 1) (pe_lst (pa_cons pe_int (pa_cons pe_int (pa_cons pe_int (pa_cons pe_int (pa_cons pe_int (pa_cons pe_int pa_nil))))))) (by rfl)) (pss_one (ps_ret (pe_callB (k_repr (K := K) hr st) (by rfl) T.z_repr (by decide +kernel) (pa_cons (k_errF (K := K) (pv 0) rfl) pa_nil)))) pss_nil)
      (pss_cons (ps_if (pt_cmpR (k_in (K := K)) (pv 1) (pe_lst (pa_cons pe_int (pa_cons pe_int (pa_cons pe_int pa_nil)))) (by rfl)) (pss_one (ps_ret (pe_callB (k_repr (K := K) hr st) (by rfl) T.z_repr (by decide +kernel) (pa_cons (k_errF (K := K) (pv 0) rfl) pa_nil)))) pss_nil)
      (pss_cons (ps_if (pt_cmpR (k_in (K := K)) (pv 1) (pe_lst (pa_cons pe_int (pa_cons pe_int (pa_cons pe_int pa_nil)))) (by rfl)) (pss_one (ps_ret (pe_callB (k_repr (K := K) hr st) (by rfl) T.z_repr (by decide +kernel) (pa_cons (pe_ifExp (pt_cmpR op_eq (pv 1) pe_int (nomark _)) (k_errF (K := K) (pv 0) rfl) (pe_ifExp (pt_cmpR op_eq (pv 1) pe_int (nomark _)) (k_errF (K := K) (pv 0) rfl) (k_errF (K := K) (pv 0) rfl))) pa_nil)))) pss_nil)
      (pss_one (ps_ret (pe_ifExp (pt_cmpR op_eq (pv 1) pe_int (nomark _)) (pe_callB (k_repr (K := K) hr st) (by rfl) T.z_repr (by decide +kernel) (pa_cons (k_errF (K := K) (pv 0) rfl) pa_nil)) (pe_ifExp (pt_cmpR op_eq (pv 1) pe_int (nomark _)) (pe_callB (k_repr (K := K) hr st) (by rfl) T.z_repr (by decide +kernel) (pa_cons (k_errF (K := K) (pv 0) rfl) pa_nil)) pe_str))))))))), ?_⟩
    have l2 : ∀ n : Nat, n ≤ 1000 → n ≤ sizeLine := fun n h => Nat.le_trans h (by decide)
    have hi : i < 32 := by
      have z := (List.getElem?_eq_some_iff.mp ei).1
      exact z
    have ef : fldOf i = some fo := by show (errs[i]?).map (·.2) = _; rw [ei]; rfl
    -- repr of the field f
    have rep : ∀ (f0 : Str) (H1 : Hp) (Q1 : VK), fldOf i = some (some f0) → Same H H1 → (Q1 (.str z) H1) → ∃ a1 C1 fs1 v1, V.ref a = .ref a1 ∧ Err H1 a1 C1 fs1 ∧ ErrC K C1 ∧ PySem.W.findIn K (.ref C1) f0 = some none ∧ fs1.lookup f0 = some v1 ∧ rRepr K [v1] H1 Q1 := by
      intro f0 H1 Q1 h0 e1 q1
      rw [ef] at h0
      cases h0
      obtain ⟨y, d, rfl, hd, ⟨s1, s2, s3⟩, rfl⟩ := hz
      exact ⟨a, cls i, _, y, rfl, he.mono e1, ET.ec i hi, (ET.em i n f0 ei).no, by simp [List.lookup], y, d, rfl, hd.mono e1, s1, s2, s3, q1⟩
    refine ⟨_, rfl, l2 5 (by decide), fun p1 n1 => ⟨_, _, rfl, .inl (SqL.of upd_same), rfl, rfl, _, rfl, ?_⟩⟩
    have e1 := (Same.refl _).trans (same_new n1 (o := .lst ([.int 0, .int 8, .int 20, .int 21, .int 22] : List V)))
    refine ite2 (fun c1 => ⟨_, rfl, rep "name" _ _ (fld1 i hi c1) e1 (q _ e1)⟩) (fun c1 => ?_)
    refine ⟨_, rfl, l2 7 (by decide), fun p2 n2 => ⟨_, _, rfl, .inl (SqL.of upd_same), rfl, rfl, _, rfl, ?_⟩⟩
    have e2 := e1.trans (same_new n2 (o := .lst ([.int 1, .int 2, .int 3, .int 7, .int 10, .int 13, .int 25] : List V)))
    refine ite2 (fun c2 => ⟨_, rfl, rep "index" _ _ (fld2 i hi c2) e2 (q _ e2)⟩) (fun c2 => ?_)
    refine ⟨_, rfl, l2 6 (by decide), fun p3 n3 => ⟨_, _, rfl, .inl (SqL.of upd_same), rfl, rfl, _, rfl, ?_⟩⟩
    have e3 := e2.trans (same_new n3 (o := .lst ([.int 4, .int 15, .int 16, .int 17, .int 18, .int 19] : List V)))
    refine ite2 (fun c3 => ⟨_, rfl, rep "value" _ _ (fld3 i hi c3) e3 (q _ e3)⟩) (fun c3 => ?_)
    refine ⟨_, rfl, l2 3 (by decide), fun p4 n4 => ⟨_, _, rfl, .inl (SqL.of upd_same), rfl, rfl, _, rfl, ?_⟩⟩
    have e4 := e3.trans (same_new n4 (o := .lst ([.int 5, .int 6, .int 11] : List V)))
    refine ite2 (fun c4 => ⟨_, rfl, rep "path" _ _ (fld4 i hi c4) e4 (q _ e4)⟩) (fun c4 => ?_)
    refine ⟨_, rfl, l2 3 (by decide), fun p5 n5 => ⟨_, _, rfl, .inl (SqL.of upd_same), rfl, rfl, _, rfl, ?_⟩⟩
    have e5 := e4.trans (same_new n5 (o := .lst ([.int 9, .int 12, .int 14] : List V)))
    refine ite2 (fun c5 => ?_) (fun c5 => ?_)
    · rcases fld5 i hi c5 with ⟨rfl, z1⟩ | ⟨rfl, z1⟩ | ⟨rfl, z1⟩
      · exact ⟨_, rfl, rfl, _, rfl, iteT ⟨_, rfl, rep "number" _ _ z1 e5 (q _ e5)⟩⟩
      · exact ⟨_, rfl, rfl, _, rfl, iteF ⟨_, rfl, rfl, _, rfl, iteT ⟨_, rfl, rep "text" _ _ z1 e5 (q _ e5)⟩⟩⟩
      · exact ⟨_, rfl, rfl, _, rfl, iteF ⟨_, rfl, rfl, _, rfl, iteF ⟨_, rfl, rep "line" _ _ z1 e5 (q _ e5)⟩⟩⟩
    have no : ∀ {x : Bool}, ¬ x = true → x = false := fun {x} h => by cases x <;> simp_all
    have d1 : inV (.int (i : Nat)) [.int 0, .int 8, .int 20, .int 21, .int 22] = false := no c1
    have d2 : inV (.int (i : Nat)) [.int 1, .int 2, .int 3, .int 7, .int 10, .int 13, .int 25] = false := no c2
    have d3 : inV (.int (i : Nat)) [.int 4, .int 15, .int 16, .int 17, .int 18, .int 19] = false := no c3
    have d4 : inV (.int (i : Nat)) [.int 5, .int 6, .int 11] = false := no c4
    have d5 : inV (.int (i : Nat)) [.int 9, .int 12, .int 14] = false := no c5
    rcases fld6 i hi (by rw [d1, d2, d3, d4, d5]; rfl) with ⟨rfl, z1⟩ | ⟨rfl, z1⟩ | ⟨x1, x2, z1⟩
    · exact ⟨_, rfl, rfl, _, rfl, iteT ⟨_, rfl, rep "word" _ _ z1 e5 (q _ e5)⟩⟩
    · exact ⟨_, rfl, rfl, _, rfl, iteF ⟨_, rfl, rfl, _, rfl, iteT ⟨_, rfl, rep "limit" _ _ z1 e5 (q _ e5)⟩⟩⟩
    · rw [ef] at z1
      cases z1
      have y1 : decide (V.int (i : Nat) = .int 23) = false := by rw [dec_int]; simp at x1 ⊢; omega
      have y2 : decide (V.int (i : Nat) = .int 31) = false := by rw [dec_int]; simp at x2 ⊢; omega
      refine ⟨_, rfl, rfl, _, rfl, ?_⟩
      rw [y1]
      refine iteF ⟨_, rfl, rfl, _, rfl, ?_⟩
      rw [y2]
      exact iteF (by cases hz; exact q _ e5)
end
end Z
set_option Elab.async false
set_option linter.all false
set_option autoImplicit false
set_option maxRecDepth 100000
set_option maxHeartbeats 4000000
namespace Z
open PySem PySem.Spec PyProof.Rows L2
/-! rows of errors -/
def flds (i : Nat) (y : V) : List (Str × V) := match errs[i]? with
  | some (_, some f) => [(f, y)]
  | _ => []
def cntE (i : Nat) : Nat := match errs[i]? with
  | some (_, some _) => 2
  | _ => 1
theorem flds_of {i : Nat} {n f : Str} {y : V} (h : errs[i]? = some (n, some f)) : flds i y = [(f, y)] := by unfold flds; rw [h]
theorem flds_no {i : Nat} {n : Str} {y : V} (h : errs[i]? = some (n, none)) : flds i y = [] := by unfold flds; rw [h]
theorem cnt_of {i : Nat} {n f : Str} (h : errs[i]? = some (n, some f)) : 2 = cntE i := by unfold cntE; rw [h]
theorem cnt_no {i : Nat} {n : Str} (h : errs[i]? = some (n, none)) : 1 = cntE i := by unfold cntE; rw [h]
def Row (cls : Nat → Addr) (y : V) (H : Hp) (i : Nat) (b : Addr) : Prop := ∃ as : List Addr, H b = some (.lst (as.map V.ref)) ∧ (∀ a ∈ as, Err H a (cls i) (flds i y)) ∧ as.length = cntE i
def Rows (cls : Nat → Addr) (y : V) (H : Hp) (k : Nat) (bs : List Addr) : Prop := ∀ (j : Nat) b, bs[j]? = some b → Row cls y H (k + j) b
structure Fnd (cls : Nat → Addr) (y : V) (k : Nat) (H0 : Hp) (p : Addr) (H : Hp) (bs : List Addr) : Prop where
  np : H0 p = none
  sm : Same H0 H
  at_ : H p = some (.lst (bs.map V.ref))
  rows : Rows cls y H k bs
  ne : ∀ b ∈ bs, b ≠ p
section
variable {cls : Nat → Addr} {y : V} {k i : Nat} {H0 H H' : Hp} {p b : Addr} {bs cs as : List Addr} {vs : List V}
theorem Row.mono (e : Same H H') (h : Row cls y H i b) : Row cls y H' i b := by
  obtain ⟨as, h1, h2, h3⟩ := h
  exact ⟨as, e _ _ h1, fun a ha => (h2 a ha).mono e, h3⟩
theorem Row.upd {xs ys : List V} (hp : H p = some (.lst xs)) (ne : b ≠ p) (h : Row cls y H i b) : Row cls y (L2.upd H p (.lst ys)) i b := by
  obtain ⟨as, h1, h2, h3⟩ := h
  exact ⟨as, by rw [upd_ne ne]; exact h1, fun a ha => (h2 a ha).monoT (sameT_list hp), h3⟩
theorem Row.of (hb : H b = none) (hv : vs = as.map V.ref) (he : ∀ a ∈ as, Err H a (cls i) (flds i y)) (hc : as.length = cntE i) : Row cls y (L2.upd H b (.lst vs)) i b := by
  subst hv
  exact ⟨as, upd_same, fun a ha => (he a ha).mono (same_new hb), hc⟩
theorem Rows.mono (e : Same H H') (h : Rows cls y H k bs) : Rows cls y H' k bs := fun j b hb => (h j b hb).mono e
theorem Rows.nil : Rows cls y H k [] := fun j b hb => by simp at hb
theorem Rows.snoc (h : Rows cls y H k bs) (r : Row cls y H (k + bs.length) b) : Rows cls y H k (bs ++ [b]) := fun j c hc => by
  rcases Nat.lt_or_ge j bs.length with z | z
  · rw [List.getElem?_append_left z] at hc
    exact h j c hc
  · rw [List.getElem?_append_right z] at hc
    have e : j - bs.length = 0 := by
      rcases Nat.eq_zero_or_pos (j - bs.length) with e | e
      · exact e
      · rw [List.getElem?_eq_none (by simp; omega)] at hc; cases hc
    rw [e] at hc
    cases hc
    have : j = bs.length := by omega
    subst this
    exact r
theorem Rows.cons (r : Row cls y H k b) (h : Rows cls y H (k + 1) bs) : Rows cls y H k (b :: bs) := fun j c hc => by
  cases j with
  | zero => cases hc; exact r
  | succ j => rw [show k + (j + 1) = k + 1 + j by omega]; exact h j c hc
theorem Rows.append (h : Rows cls y H k bs) (g : Rows cls y H (k + bs.length) cs) : Rows cls y H k (bs ++ cs) := fun j c hc => by
  rcases Nat.lt_or_ge j bs.length with z | z
  · rw [List.getElem?_append_left z] at hc
    exact h j c hc
  · rw [List.getElem?_append_right z] at hc
    rw [show k + j = k + bs.length + (j - bs.length) by omega]
    exact g _ c hc
theorem Fnd.grow (F : Fnd cls y k H0 p H bs) (e : Same H H') : Fnd cls y k H0 p H' bs := ⟨F.np, F.sm.trans e, e _ _ F.at_, F.rows.mono e, F.ne⟩
theorem Fnd.app (F : Fnd cls y k H0 p H bs) (hb : H b = none) (hv : vs = as.map V.ref) (he : ∀ a ∈ as, Err H a (cls i) (flds i y)) (hi : i = k + bs.length) (hc : as.length = cntE i) :
    Fnd cls y k H0 p (L2.upd (L2.upd H b (.lst vs)) p (.lst (bs.map V.ref ++ [.ref b]))) (bs ++ [b]) := by
  subst hi
  have nb : b ≠ p := fun e => by rw [e, F.at_] at hb; cases hb
  have G := F.grow (same_new hb (o := .lst vs))
  refine ⟨F.np, same_app G.sm F.np, ?_, ?_, ?_⟩
  · rw [upd_same]; simp
  · refine Rows.snoc (fun j c hc => (G.rows j c hc).upd G.at_ (F.ne c (List.mem_of_getElem? hc))) ((Row.of hb hv he hc).upd G.at_ nb)
  · intro c hc
    rcases List.mem_append.mp hc with z | z
    · exact F.ne c z
    · simp at z; subst z; exact nb
end
def spFirst (cls : Nat → Addr) (k n : Nat) : Sp := fun vs H Q _ => ∃ y, vs = [y] ∧ ∀ p bs H', Same H H' → H' p = some (.lst (bs.map V.ref)) → bs.length = n → Rows cls y H' k bs → Q (.ref p) H'
theorem pair_err {cls : Nat → Addr} {y : V} {i : Nat} {f : Str} {H : Hp} {a b : Addr} (hf : flds i y = [(f, y)]) (h1 : Err H a (cls i) [(f, y)]) (h2 : Err H b (cls i) [(f, y)]) : ∀ c ∈ [a, b], Err H c (cls i) (flds i y) := by
  intro c hc
  rw [hf]
  rcases List.mem_cons.mp hc with e | e
  · subst e; exact h1
  · simp at e; subst e; exact h2
theorem one_err {cls : Nat → Addr} {y : V} {i : Nat} {H : Hp} {a : Addr} (hf : flds i y = []) (h1 : Err H a (cls i) []) : ∀ c ∈ [a], Err H c (cls i) (flds i y) := by
  intro c hc
  simp at hc
  subst hc
  rw [hf]; exact h1
section
variable {P : Program} {w : World} {K : PySem.W.Frag} {mg : Str → Option Value} {base : Heap} {cls bas : Nat → Addr}
theorem kn__law_first (D : Def0 K mg "_law_first" (top 42)) (T : Txt K mg) (ET : ErrT P w K mg base cls bas) : Kn P w K mg base CX0 "_law_first" 3 ["worth"] [] (spFirst cls 0 15) := by
  obtain ⟨f, fd, F, m⟩ := D
  have sc_ : FnScope ["worth", "found"] ["worth"] (defScope (top 42)) := ⟨rfl, rfl, rfl, by decide +kernel, rfl, by decide +kernel, by decide +kernel⟩
  refine kn_of F m (F.ok sc_ (fun vs H Q E h => ?_) (fun cdv A outer s H vs Q E hr h => ?_)) (F.bindsN fun _ _ _ _ _ _ us hl => match us, hl with | [_], _ => rfl)
  · obtain ⟨y, rfl, _⟩ := h; rfl
  · obtain ⟨y, rfl, q⟩ := h
    refine ⟨_, PSs.nox (pss_cons (ps_set (i := 1) sc_.nd rfl (by first | exact Or.inl rfl | exact Or.inr rfl) (pe_lst (pa_cons (pe_lst (pa_cons (pe_err (ET.em 0 "InvalidName" "name" rfl) hr (by decide) (pv 0)) (pa_cons (pe_errKw (ET.em 0 "InvalidName" "name" rfl) hr (by decide) (pv 0)) pa_nil))) (pa_cons (pe_lst (pa_cons (pe_err (ET.em 1 "InvalidSchema" "index" rfl) hr (by decide) (pv 0)) (pa_cons (pe_errKw (ET.em 1 "InvalidSchema" "index" rfl) hr (by decide) (pv 0)) pa_nil))) pa_nil))))
      (pss_cons (ps_expr (k_bm (K := K) PySem.F.plainAttrs_list PySem.F.slot_list_append PySem.F.type_list_append mt_append (pv 1) (pa_cons (pe_lst (pa_cons (pe_err (ET.em 2 "InvalidRows" "index" rfl) hr (by decide) (pv 0)) (pa_cons (pe_errKw (ET.em 2 "InvalidRows" "index" rfl) hr (by decide) (pv 0)) pa_nil))) pa_nil)))
      (pss_cons (ps_expr (k_bm (K := K) PySem.F.plainAttrs_list PySem.F.slot_list_append PySem.F.type_list_append mt_append (pv 1) (pa_cons (pe_lst (pa_cons (pe_err (ET.em 3 "InvalidRow" "index" rfl) hr (by decide) (pv 0)) (pa_cons (pe_errKw (ET.em 3 "InvalidRow" "index" rfl) hr (by decide) (pv 0)) pa_nil))) pa_nil)))
      (pss_cons (ps_expr (k_bm (K := K) PySem.F.plainAttrs_list PySem.F.slot_list_append PySem.F.type_list_append mt_append (pv 1) (pa_cons (pe_lst (pa_cons (pe_err (ET.em 4 "InvalidValue" "value" rfl) hr (by decide) (pv 0)) (pa_cons (pe_errKw (ET.em 4 "InvalidValue" "value" rfl) hr (by decide) (pv 0)) pa_nil))) pa_nil)))
      (pss_cons (ps_expr (k_bm (K := K) PySem.F.plainAttrs_list PySem.F.slot_list_append PySem.F.type_list_append mt_append (pv 1) (pa_cons (pe_lst (pa_cons (pe_err (ET.em 5 "InvalidExpression" "path" rfl) hr (by decide) (pv 0)) (pa_cons (pe_errKw (ET.em 5 "InvalidExpression" "path" rfl) hr (by decide) (pv 0)) pa_nil))) pa_nil)))
      (pss_cons (ps_expr (k_bm (K := K) PySem.F.plainAttrs_list PySem.F.slot_list_append PySem.F.type_list_append mt_append (pv 1) (pa_cons (pe_lst (pa_cons (pe_err (ET.em 6 "InvalidPlan" "path" rfl) hr (by decide) (pv 0)) (pa_cons (pe_errKw (ET.em 6 "InvalidPlan" "path" rfl) hr (by decide) (pv 0)) pa_nil))) pa_nil)))
      (pss_cons (ps_expr (k_bm (K := K) PySem.F.plainAttrs_list PySem.F.slot_list_append PySem.F.type_list_append mt_append (pv 1) (pa_cons (pe_lst (pa_cons (pe_err (ET.em 7 "InvalidSchemas" "index" rfl) hr (by decide) (pv 0)) (pa_cons (pe_errKw (ET.em 7 "InvalidSchemas" "index" rfl) hr (by decide) (pv 0)) pa_nil))) pa_nil)))
      (pss_cons (ps_expr (k_bm (K := K) PySem.F.plainAttrs_list PySem.F.slot_list_append PySem.F.type_list_append mt_append (pv 1) (pa_cons (pe_lst (pa_cons (pe_err (ET.em 8 "InvalidFeed" "name" rfl) hr (by decide) (pv 0)) (pa_cons (pe_errKw (ET.em 8 "InvalidFeed" "name" rfl) hr (by decide) (pv 0)) pa_nil))) pa_nil)))
      (pss_cons (ps_expr (k_bm (K := K) PySem.F.plainAttrs_list PySem.F.slot_list_append PySem.F.type_list_append mt_append (pv 1) (pa_cons (pe_lst (pa_cons (pe_err (ET.em 9 "InvalidNumber" "number" rfl) hr (by decide) (pv 0)) (pa_cons (pe_errKw (ET.em 9 "InvalidNumber" "number" rfl) hr (by decide) (pv 0)) pa_nil))) pa_nil)))
      (pss_cons (ps_expr (k_bm (K := K) PySem.F.plainAttrs_list PySem.F.slot_list_append PySem.F.type_list_append mt_append (pv 1) (pa_cons (pe_lst (pa_cons (pe_err (ET.em 10 "InvalidSteps" "index" rfl) hr (by decide) (pv 0)) (pa_cons (pe_errKw (ET.em 10 "InvalidSteps" "index" rfl) hr (by decide) (pv 0)) pa_nil))) pa_nil)))
      (pss_cons (ps_expr (k_bm (K := K) PySem.F.plainAttrs_list PySem.F.slot_list_append PySem.F.type_list_append mt_append (pv 1) (pa_cons (pe_lst (pa_cons (pe_err (ET.em 11 "InvalidPath" "path" rfl) hr (by decide) (pv 0)) (pa_cons (pe_errKw (ET.em 11 "InvalidPath" "path" rfl) hr (by decide) (pv 0)) pa_nil))) pa_nil)))
      (pss_cons (ps_expr (k_bm (K := K) PySem.F.plainAttrs_list PySem.F.slot_list_append PySem.F.type_list_append mt_append (pv 1) (pa_cons (pe_lst (pa_cons (pe_err (ET.em 12 "InvalidText" "text" rfl) hr (by decide) (pv 0)) (pa_cons (pe_errKw (ET.em 12 "InvalidText" "text" rfl) hr (by decide) (pv 0)) pa_nil))) pa_nil)))
      (pss_cons (ps_expr (k_bm (K := K) PySem.F.plainAttrs_list PySem.F.slot_list_append PySem.F.type_list_append mt_append (pv 1) (pa_cons (pe_lst (pa_cons (pe_err (ET.em 13 "InvalidAction" "index" rfl) hr (by decide) (pv 0)) (pa_cons (pe_errKw (ET.em 13 "InvalidAction" "index" rfl) hr (by decide) (pv 0)) pa_nil))) pa_nil)))
      (pss_cons (ps_expr (k_bm (K := K) PySem.F.plainAttrs_list PySem.F.slot_list_append PySem.F.type_list_append mt_append (pv 1) (pa_cons (pe_lst (pa_cons (pe_err (ET.em 14 "InvalidLine" "line" rfl) hr (by decide) (pv 0)) (pa_cons (pe_errKw (ET.em 14 "InvalidLine" "line" rfl) hr (by decide) (pv 0)) pa_nil))) pa_nil)))
      (pss_one (ps_ret (pv 1))))))))))))))))), ?_⟩
    have l2 : ∀ n : Nat, n ≤ 1000 → n ≤ sizeLine := fun n h => Nat.le_trans h (by decide)
    refine ⟨_, rfl, fun a1 H1 e1 r1 => ⟨_, rfl, fun a2 H2 e2 r2 => ⟨l2 2 (by decide), fun b1 n1 => ⟨_, rfl, fun a3 H3 e3 r3 => ⟨_, rfl, fun a4 H4 e4 r4 => ⟨l2 2 (by decide), fun b2 n2 => ⟨l2 2 (by decide), fun p np => ?_⟩⟩⟩⟩⟩⟩⟩
    have s1 := e1.trans (e2.trans (same_new n1 (o := .lst [.ref a1, .ref a2])))
    have s2 := e3.trans (e4.trans (same_new n2 (o := .lst [.ref a3, .ref a4])))
    have R1 : Row cls y _ 0 b1 := Row.of n1 (as := [a1, a2]) rfl (pair_err (flds_of (i := 0) (n := "InvalidName") (f := "name") rfl) (r1.mono e2) r2) (cnt_of (i := 0) (n := "InvalidName") (f := "name") rfl)
    have R2 : Row cls y _ 1 b2 := Row.of n2 (as := [a3, a4]) rfl (pair_err (flds_of (i := 1) (n := "InvalidSchema") (f := "index") rfl) (r3.mono e4) r4) (cnt_of (i := 1) (n := "InvalidSchema") (f := "index") rfl)
    have sp := same_new np (o := .lst [.ref b1, .ref b2])
    have np0 : H p = none := by
      cases z : H p with
      | none => rfl
      | some o => have z2 := (s1.trans s2) _ _ z; rw [np] at z2; cases z2
    have nb2 : b2 ≠ p := fun z => by rw [← z, upd_same] at np; cases np
    have nb1 : b1 ≠ p := fun z => by have z2 := s2 _ _ (upd_same (H := H2) (a := b1) (o := .lst [.ref a1, .ref a2])); rw [z, np] at z2; cases z2
    have FF : Fnd cls y 0 H p (upd (upd H4 b2 (.lst [.ref a3, .ref a4])) p (.lst [.ref b1, .ref b2])) [b1, b2] := ⟨np0, (s1.trans s2).trans sp, upd_same, Rows.cons ((R1.mono s2).mono sp) (Rows.cons (R2.mono sp) Rows.nil), fun c hc => by rcases List.mem_cons.mp hc with z | z; (subst z; exact nb1); (simp at z; subst z; exact nb2)⟩
    change tSeq _ _ _ [some y, some (.ref p)] _
    generalize upd (upd H4 b2 (HO.lst [.ref a3, .ref a4])) p (HO.lst [.ref b1, .ref b2]) = G2 at FF ⊢
    clear R1 R2 s1 s2 sp np np0 nb1 nb2 n1 n2 r1 r2 r3 r4 e1 e2 e3 e4
    refine ⟨_, rfl, .inl ⟨rfl, _, SqL.of FF.at_⟩, _, rfl, fun a1 H1 e1 r1 => ⟨_, rfl, fun a2 H2 e2 r2 => ⟨l2 2 (by decide), fun b3 n1 => ⟨p, [b1, b2].map V.ref, .ref b3, rfl, rfl, same_new n1 _ _ (FF.grow (e1.trans e2)).at_, Nat.lt_of_lt_of_le (show _ < 1000 by simp) (l2 1000 (by decide)), ?_⟩⟩⟩⟩
    replace FF := (FF.grow (e1.trans e2)).app n1 (i := 2) (as := [a1, a2]) (vs := [.ref a1, .ref a2]) rfl (pair_err (flds_of (i := 2) (n := "InvalidRows") (f := "index") rfl) (r1.mono e2) r2) rfl (cnt_of (i := 2) (n := "InvalidRows") (f := "index") rfl)
    generalize upd (upd H2 b3 (HO.lst [.ref a1, .ref a2])) p (HO.lst ([b1, b2].map V.ref ++ [V.ref b3])) = G3 at FF ⊢
    change Fnd cls y _ H p G3 [b1, b2, b3] at FF
    clear n1 r1 r2 e1 e2 
    refine ⟨_, rfl, .inl ⟨rfl, _, SqL.of FF.at_⟩, _, rfl, fun a1 H1 e1 r1 => ⟨_, rfl, fun a2 H2 e2 r2 => ⟨l2 2 (by decide), fun b4 n1 => ⟨p, [b1, b2, b3].map V.ref, .ref b4, rfl, rfl, same_new n1 _ _ (FF.grow (e1.trans e2)).at_, Nat.lt_of_lt_of_le (show _ < 1000 by simp) (l2 1000 (by decide)), ?_⟩⟩⟩⟩
    replace FF := (FF.grow (e1.trans e2)).app n1 (i := 3) (as := [a1, a2]) (vs := [.ref a1, .ref a2]) rfl (pair_err (flds_of (i := 3) (n := "InvalidRow") (f := "index") rfl) (r1.mono e2) r2) rfl (cnt_of (i := 3) (n := "InvalidRow") (f := "index") rfl)
    generalize upd (upd H2 b4 (HO.lst [.ref a1, .ref a2])) p (HO.lst ([b1, b2, b3].map V.ref ++ [V.ref b4])) = G4 at FF ⊢
    change Fnd cls y _ H p G4 [b1, b2, b3, b4] at FF
    clear n1 r1 r2 e1 e2 
    refine ⟨_, rfl, .inl ⟨rfl, _, SqL.of FF.at_⟩, _, rfl, fun a1 H1 e1 r1 => ⟨_, rfl, fun a2 H2 e2 r2 => ⟨l2 2 (by decide), fun b5 n1 => ⟨p, [b1, b2, b3, b4].map V.ref, .ref b5, rfl, rfl, same_new n1 _ _ (FF.grow (e1.trans e2)).at_, Nat.lt_of_lt_of_le (show _ < 1000 by simp) (l2 1000 (by decide)), ?_⟩⟩⟩⟩
    replace FF := (FF.grow (e1.trans e2)).app n1 (i := 4) (as := [a1, a2]) (vs := [.ref a1, .ref a2]) rfl (pair_err (flds_of (i := 4) (n := "InvalidValue") (f := "value") rfl) (r1.mono e2) r2) rfl (cnt_of (i := 4) (n := "InvalidValue") (f := "value") rfl)
    generalize upd (upd H2 b5 (HO.lst [.ref a1, .ref a2])) p (HO.lst ([b1, b2, b3, b4].map V.ref ++ [V.ref b5])) = G5 at FF ⊢
    change Fnd cls y _ H p G5 [b1, b2, b3, b4, b5] at FF
    clear n1 r1 r2 e1 e2 
    refine ⟨_, rfl, .inl ⟨rfl, _, SqL.of FF.at_⟩, _, rfl, fun a1 H1 e1 r1 => ⟨_, rfl, fun a2 H2 e2 r2 => ⟨l2 2 (by decide), fun b6 n1 => ⟨p, [b1, b2, b3, b4, b5].map V.ref, .ref b6, rfl, rfl, same_new n1 _ _ (FF.grow (e1.trans e2)).at_, Nat.lt_of_lt_of_le (show _ < 1000 by simp) (l2 1000 (by decide)), ?_⟩⟩⟩⟩
    replace FF := (FF.grow (e1.trans e2)).app n1 (i := 5) (as := [a1, a2]) (vs := [.ref a1, .ref a2]) rfl (pair_err (flds_of (i := 5) (n := "InvalidExpression") (f := "path") rfl) (r1.mono e2) r2) rfl (cnt_of (i := 5) (n := "InvalidExpression") (f := "path") rfl)
    generalize upd (upd H2 b6 (HO.lst [.ref a1, .ref a2])) p (HO.lst ([b1, b2, b3, b4, b5].map V.ref ++ [V.ref b6])) = G6 at FF ⊢
    change Fnd cls y _ H p G6 [b1, b2, b3, b4, b5, b6] at FF
    clear n1 r1 r2 e1 e2 
    refine ⟨_, rfl, .inl ⟨rfl, _, SqL.of FF.at_⟩, _, rfl, fun a1 H1 e1 r1 => ⟨_, rfl, fun a2 H2 e2 r2 => ⟨l2 2 (by decide), fun b7 n1 => ⟨p, [b1, b2, b3, b4, b5, b6].map V.ref, .ref b7, rfl, rfl, same_new n1 _ _ (FF.grow (e1.trans e2)).at_, Nat.lt_of_lt_of_le (show _ < 1000 by simp) (l2 1000 (by decide)), ?_⟩⟩⟩⟩
    replace FF := (FF.grow (e1.trans e2)).app n1 (i := 6) (as := [a1, a2]) (vs := [.ref a1, .ref a2]) rfl (pair_err (flds_of (i := 6) (n := "InvalidPlan") (f := "path") rfl) (r1.mono e2) r2) rfl (cnt_of (i := 6) (n := "InvalidPlan") (f := "path") rfl)
    generalize upd (upd H2 b7 (HO.lst [.ref a1, .ref a2])) p (HO.lst ([b1, b2, b3, b4, b5, b6].map V.ref ++ [V.ref b7])) = G7 at FF ⊢
    change Fnd cls y _ H p G7 [b1, b2, b3, b4, b5, b6, b7] at FF
    clear n1 r1 r2 e1 e2 
    refine ⟨_, rfl, .inl ⟨rfl, _, SqL.of FF.at_⟩, _, rfl, fun a1 H1 e1 r1 => ⟨_, rfl, fun a2 H2 e2 r2 => ⟨l2 2 (by decide), fun b8 n1 => ⟨p, [b1, b2, b3, b4, b5, b6, b7].map V.ref, .ref b8, rfl, rfl, same_new n1 _ _ (FF.grow (e1.trans e2)).at_, Nat.lt_of_lt_of_le (show _ < 1000 by simp) (l2 1000 (by decide)), ?_⟩⟩⟩⟩
    replace FF := (FF.grow (e1.trans e2)).app n1 (i := 7) (as := [a1, a2]) (vs := [.ref a1, .ref a2]) rfl (pair_err (flds_of (i := 7) (n := "InvalidSchemas") (f := "index") rfl) (r1.mono e2) r2) rfl (cnt_of (i := 7) (n := "InvalidSchemas") (f := "index") rfl)
    generalize upd (upd H2 b8 (HO.lst [.ref a1, .ref a2])) p (HO.lst ([b1, b2, b3, b4, b5, b6, b7].map V.ref ++ [V.ref b8])) = G8 at FF ⊢
    change Fnd cls y _ H p G8 [b1, b2, b3, b4, b5, b6, b7, b8] at FF
    clear n1 r1 r2 e1 e2 
    refine ⟨_, rfl, .inl ⟨rfl, _, SqL.of FF.at_⟩, _, rfl, fun a1 H1 e1 r1 => ⟨_, rfl, fun a2 H2 e2 r2 => ⟨l2 2 (by decide), fun b9 n1 => ⟨p, [b1, b2, b3, b4, b5, b6, b7, b8].map V.ref, .ref b9, rfl, rfl, same_new n1 _ _ (FF.grow (e1.trans e2)).at_, Nat.lt_of_lt_of_le (show _ < 1000 by simp) (l2 1000 (by decide)), ?_⟩⟩⟩⟩
    replace FF := (FF.grow (e1.trans e2)).app n1 (i := 8) (as := [a1, a2]) (vs := [.ref a1, .ref a2]) rfl (pair_err (flds_of (i := 8) (n := "InvalidFeed") (f := "name") rfl) (r1.mono e2) r2) rfl (cnt_of (i := 8) (n := "InvalidFeed") (f := "name") rfl)
    generalize upd (upd H2 b9 (HO.lst [.ref a1, .ref a2])) p (HO.lst ([b1, b2, b3, b4, b5, b6, b7, b8].map V.ref ++ [V.ref b9])) = G9 at FF ⊢
    change Fnd cls y _ H p G9 [b1, b2, b3, b4, b5, b6, b7, b8, b9] at FF
    clear n1 r1 r2 e1 e2 
    refine ⟨_, rfl, .inl ⟨rfl, _, SqL.of FF.at_⟩, _, rfl, fun a1 H1 e1 r1 => ⟨_, rfl, fun a2 H2 e2 r2 => ⟨l2 2 (by decide), fun b10 n1 => ⟨p, [b1, b2, b3, b4, b5, b6, b7, b8, b9].map V.ref, .ref b10, rfl, rfl, same_new n1 _ _ (FF.grow (e1.trans e2)).at_, Nat.lt_of_lt_of_le (show _ < 1000 by simp) (l2 1000 (by decide)), ?_⟩⟩⟩⟩
    replace FF := (FF.grow (e1.trans e2)).app n1 (i := 9) (as := [a1, a2]) (vs := [.ref a1, .ref a2]) rfl (pair_err (flds_of (i := 9) (n := "InvalidNumber") (f := "number") rfl) (r1.mono e2) r2) rfl (cnt_of (i := 9) (n := "InvalidNumber") (f := "number") rfl)
    generalize upd (upd H2 b10 (HO.lst [.ref a1, .ref a2])) p (HO.lst ([b1, b2, b3, b4, b5, b6, b7, b8, b9].map V.ref ++ [V.ref b10])) = G10 at FF ⊢
    change Fnd cls y _ H p G10 [b1, b2, b3, b4, b5, b6, b7, b8, b9, b10] at FF
    clear n1 r1 r2 e1 e2 
    refine ⟨_, rfl, .inl ⟨rfl, _, SqL.of FF.at_⟩, _, rfl, fun a1 H1 e1 r1 => ⟨_, rfl, fun a2 H2 e2 r2 => ⟨l2 2 (by decide), fun b11 n1 => ⟨p, [b1, b2, b3, b4, b5, b6, b7, b8, b9, b10].map V.ref, .ref b11, rfl, rfl, same_new n1 _ _ (FF.grow (e1.trans e2)).at_, Nat.lt_of_lt_of_le (show _ < 1000 by simp) (l2 1000 (by decide)), ?_⟩⟩⟩⟩
    replace FF := (FF.grow (e1.trans e2)).app n1 (i := 10) (as := [a1, a2]) (vs := [.ref a1, .ref a2]) rfl (pair_err (flds_of (i := 10) (n := "InvalidSteps") (f := "index") rfl) (r1.mono e2) r2) rfl (cnt_of (i := 10) (n := "InvalidSteps") (f := "index") rfl)
    generalize upd (upd H2 b11 (HO.lst [.ref a1, .ref a2])) p (HO.lst ([b1, b2, b3, b4, b5, b6, b7, b8, b9, b10].map V.ref ++ [V.ref b11])) = G11 at FF ⊢
    change Fnd cls y _ H p G11 [b1, b2, b3, b4, b5, b6, b7, b8, b9, b10, b11] at FF
    clear n1 r1 r2 e1 e2 
    refine ⟨_, rfl, .inl ⟨rfl, _, SqL.of FF.at_⟩, _, rfl, fun a1 H1 e1 r1 => ⟨_, rfl, fun a2 H2 e2 r2 => ⟨l2 2 (by decide), fun b12 n1 => ⟨p, [b1, b2, b3, b4, b5, b6, b7, b8, b9, b10, b11].map V.ref, .ref b12, rfl, rfl, same_new n1 _ _ (FF.grow (e1.trans e2)).at_, Nat.lt_of_lt_of_le (show _ < 1000 by simp) (l2 1000 (by decide)), ?_⟩⟩⟩⟩
    replace FF := (FF.grow (e1.trans e2)).app n1 (i := 11) (as := [a1, a2]) (vs := [.ref a1, .ref a2]) rfl (pair_err (flds_of (i := 11) (n := "InvalidPath") (f := "path") rfl) (r1.mono e2) r2) rfl (cnt_of (i := 11) (n := "InvalidPath") (f := "path") rfl)
    generalize upd (upd H2 b12 (HO.lst [.ref a1, .ref a2])) p (HO.lst ([b1, b2, b3, b4, b5, b6, b7, b8, b9, b10, b11].map V.ref ++ [V.ref b12])) = G12 at FF ⊢
    change Fnd cls y _ H p G12 [b1, b2, b3, b4, b5, b6, b7, b8, b9, b10, b11, b12] at FF
    clear n1 r1 r2 e1 e2 
    refine ⟨_, rfl, .inl ⟨rfl, _, SqL.of FF.at_⟩, _, rfl, fun a1 H1 e1 r1 => ⟨_, rfl, fun a2 H2 e2 r2 => ⟨l2 2 (by decide), fun b13 n1 => ⟨p, [b1, b2, b3, b4, b5, b6, b7, b8, b9, b10, b11, b12].map V.ref, .ref b13, rfl, rfl, same_new n1 _ _ (FF.grow (e1.trans e2)).at_, Nat.lt_of_lt_of_le (show _ < 1000 by simp) (l2 1000 (by decide)), ?_⟩⟩⟩⟩
    replace FF := (FF.grow (e1.trans e2)).app n1 (i := 12) (as := [a1, a2]) (vs := [.ref a1, .ref a2]) rfl (pair_err (flds_of (i := 12) (n := "InvalidText") (f := "text") rfl) (r1.mono e2) r2) rfl (cnt_of (i := 12) (n := "InvalidText") (f := "text") rfl)
    generalize upd (upd H2 b13 (HO.lst [.ref a1, .ref a2])) p (HO.lst ([b1, b2, b3, b4, b5, b6, b7, b8, b9, b10, b11, b12].map V.ref ++ [V.ref b13])) = G13 at FF ⊢
    change Fnd cls y _ H p G13 [b1, b2, b3, b4, b5, b6, b7, b8, b9, b10, b11, b12, b13] at FF
    clear n1 r1 r2 e1 e2 
    refine ⟨_, rfl, .inl ⟨rfl, _, SqL.of FF.at_⟩, _, rfl, fun a1 H1 e1 r1 => ⟨_, rfl, fun a2 H2 e2 r2 => ⟨l2 2 (by decide), fun b14 n1 => ⟨p, [b1, b2, b3, b4, b5, b6, b7, b8, b9, b10, b11, b12, b13].map V.ref, .ref b14, rfl, rfl, same_new n1 _ _ (FF.grow (e1.trans e2)).at_, Nat.lt_of_lt_of_le (show _ < 1000 by simp) (l2 1000 (by decide)), ?_⟩⟩⟩⟩
    replace FF := (FF.grow (e1.trans e2)).app n1 (i := 13) (as := [a1, a2]) (vs := [.ref a1, .ref a2]) rfl (pair_err (flds_of (i := 13) (n := "InvalidAction") (f := "index") rfl) (r1.mono e2) r2) rfl (cnt_of (i := 13) (n := "InvalidAction") (f := "index") rfl)
    generalize upd (upd H2 b14 (HO.lst [.ref a1, .ref a2])) p (HO.lst ([b1, b2, b3, b4, b5, b6, b7, b8, b9, b10, b11, b12, b13].map V.ref ++ [V.ref b14])) = G14 at FF ⊢
    change Fnd cls y _ H p G14 [b1, b2, b3, b4, b5, b6, b7, b8, b9, b10, b11, b12, b13, b14] at FF
    clear n1 r1 r2 e1 e2 
    refine ⟨_, rfl, .inl ⟨rfl, _, SqL.of FF.at_⟩, _, rfl, fun a1 H1 e1 r1 => ⟨_, rfl, fun a2 H2 e2 r2 => ⟨l2 2 (by decide), fun b15 n1 => ⟨p, [b1, b2, b3, b4, b5, b6, b7, b8, b9, b10, b11, b12, b13, b14].map V.ref, .ref b15, rfl, rfl, same_new n1 _ _ (FF.grow (e1.trans e2)).at_, Nat.lt_of_lt_of_le (show _ < 1000 by simp) (l2 1000 (by decide)), ?_⟩⟩⟩⟩
    replace FF := (FF.grow (e1.trans e2)).app n1 (i := 14) (as := [a1, a2]) (vs := [.ref a1, .ref a2]) rfl (pair_err (flds_of (i := 14) (n := "InvalidLine") (f := "line") rfl) (r1.mono e2) r2) rfl (cnt_of (i := 14) (n := "InvalidLine") (f := "line") rfl)
    generalize upd (upd H2 b15 (HO.lst [.ref a1, .ref a2])) p (HO.lst ([b1, b2, b3, b4, b5, b6, b7, b8, b9, b10, b11, b12, b13, b14].map V.ref ++ [V.ref b15])) = G15 at FF ⊢
    change Fnd cls y _ H p G15 [b1, b2, b3, b4, b5, b6, b7, b8, b9, b10, b11, b12, b13, b14, b15] at FF
    clear n1 r1 r2 e1 e2 
    exact ⟨_, rfl, q p _ _ FF.sm FF.at_ rfl FF.rows⟩
theorem kn__law_second (D : Def0 K mg "_law_second" (top 43)) (T : Txt K mg) (ET : ErrT P w K mg base cls bas) : Kn P w K mg base CX0 "_law_second" 3 ["worth"] [] (spFirst cls 15 17) := by
  obtain ⟨f, fd, F, m⟩ := D
  have sc_ : FnScope ["worth", "found"] ["worth"] (defScope (top 43)) := ⟨rfl, rfl, rfl, by decide +kernel, rfl, by decide +kernel, by decide +kernel⟩
  refine kn_of F m (F.ok sc_ (fun vs H Q E h => ?_) (fun cdv A outer s H vs Q E hr h => ?_)) (F.bindsN fun _ _ _ _ _ _ us hl => match us, hl with | [_], _ => rfl)
  · obtain ⟨y, rfl, _⟩ := h; rfl
  · obtain ⟨y, rfl, q⟩ := h
    refine ⟨_, PSs.nox (pss_cons (ps_set (i := 1) sc_.nd rfl (by first | exact Or.inl rfl | exact Or.inr rfl) (pe_lst (pa_cons (pe_lst (pa_cons (pe_err (ET.em 15 "NotAFrame" "value" rfl) hr (by decide) (pv 0)) (pa_cons (pe_errKw (ET.em 15 "NotAFrame" "value" rfl) hr (by decide) (pv 0)) pa_nil))) (pa_cons (pe_lst (pa_cons (pe_err (ET.em 16 "NotAHouse" "value" rfl) hr (by decide) (pv 0)) (pa_cons (pe_errKw (ET.em 16 "NotAHouse" "value" rfl) hr (by decide) (pv 0)) pa_nil))) pa_nil))))
      (pss_cons (ps_expr (k_bm (K := K) PySem.F.plainAttrs_list PySem.F.slot_list_append PySem.F.type_list_append mt_append (pv 1) (pa_cons (pe_lst (pa_cons (pe_err (ET.em 17 "NotAnExpr" "value" rfl) hr (by decide) (pv 0)) (pa_cons (pe_errKw (ET.em 17 "NotAnExpr" "value" rfl) hr (by decide) (pv 0)) pa_nil))) pa_nil)))
      (pss_cons (ps_expr (k_bm (K := K) PySem.F.plainAttrs_list PySem.F.slot_list_append PySem.F.type_list_append mt_append (pv 1) (pa_cons (pe_lst (pa_cons (pe_err (ET.em 18 "NotAPipe" "value" rfl) hr (by decide) (pv 0)) (pa_cons (pe_errKw (ET.em 18 "NotAPipe" "value" rfl) hr (by decide) (pv 0)) pa_nil))) pa_nil)))
      (pss_cons (ps_expr (k_bm (K := K) PySem.F.plainAttrs_list PySem.F.slot_list_append PySem.F.type_list_append mt_append (pv 1) (pa_cons (pe_lst (pa_cons (pe_err (ET.em 19 "NotASheet" "value" rfl) hr (by decide) (pv 0)) (pa_cons (pe_errKw (ET.em 19 "NotASheet" "value" rfl) hr (by decide) (pv 0)) pa_nil))) pa_nil)))
      (pss_cons (ps_expr (k_bm (K := K) PySem.F.plainAttrs_list PySem.F.slot_list_append PySem.F.type_list_append mt_append (pv 1) (pa_cons (pe_lst (pa_cons (pe_err (ET.em 20 "UnknownSource" "name" rfl) hr (by decide) (pv 0)) (pa_cons (pe_errKw (ET.em 20 "UnknownSource" "name" rfl) hr (by decide) (pv 0)) pa_nil))) pa_nil)))
      (pss_cons (ps_expr (k_bm (K := K) PySem.F.plainAttrs_list PySem.F.slot_list_append PySem.F.type_list_append mt_append (pv 1) (pa_cons (pe_lst (pa_cons (pe_err (ET.em 21 "UnknownColumn" "name" rfl) hr (by decide) (pv 0)) (pa_cons (pe_errKw (ET.em 21 "UnknownColumn" "name" rfl) hr (by decide) (pv 0)) pa_nil))) pa_nil)))
      (pss_cons (ps_expr (k_bm (K := K) PySem.F.plainAttrs_list PySem.F.slot_list_append PySem.F.type_list_append mt_append (pv 1) (pa_cons (pe_lst (pa_cons (pe_err (ET.em 22 "DoubleColumn" "name" rfl) hr (by decide) (pv 0)) (pa_cons (pe_errKw (ET.em 22 "DoubleColumn" "name" rfl) hr (by decide) (pv 0)) pa_nil))) pa_nil)))
      (pss_cons (ps_expr (k_bm (K := K) PySem.F.plainAttrs_list PySem.F.slot_list_append PySem.F.type_list_append mt_append (pv 1) (pa_cons (pe_lst (pa_cons (pe_err (ET.em 23 "WrongKind" "word" rfl) hr (by decide) (pv 0)) (pa_cons (pe_errKw (ET.em 23 "WrongKind" "word" rfl) hr (by decide) (pv 0)) pa_nil))) pa_nil)))
      (pss_cons (ps_set (i := 1) sc_.nd rfl (by first | exact Or.inl rfl | exact Or.inr rfl) (pe_op op_cat (pv 1) (pe_lst (pa_cons (pe_lst (pa_cons (pe_errN (ET.en 24 "DifferentSchemas" rfl)) pa_nil)) (pa_cons (pe_lst (pa_cons (pe_err (ET.em 25 "DoesNotApply" "index" rfl) hr (by decide) (pv 0)) (pa_cons (pe_errKw (ET.em 25 "DoesNotApply" "index" rfl) hr (by decide) (pv 0)) pa_nil))) (pa_cons (pe_lst (pa_cons (pe_errN (ET.en 26 "NotSimple" rfl)) pa_nil)) (pa_cons (pe_lst (pa_cons (pe_errN (ET.en 27 "NoText" rfl)) pa_nil)) pa_nil)))))))
      (pss_one (ps_ret (pe_op op_cat (pv 1) (pe_lst (pa_cons (pe_lst (pa_cons (pe_errN (ET.en 28 "Closed" rfl)) pa_nil)) (pa_cons (pe_lst (pa_cons (pe_errN (ET.en 29 "Busy" rfl)) pa_nil)) (pa_cons (pe_lst (pa_cons (pe_errN (ET.en 30 "NothingToUndo" rfl)) pa_nil)) (pa_cons (pe_lst (pa_cons (pe_err (ET.em 31 "TooMany" "limit" rfl) hr (by decide) (pv 0)) (pa_cons (pe_errKw (ET.em 31 "TooMany" "limit" rfl) hr (by decide) (pv 0)) pa_nil))) pa_nil))))))))))))))))), ?_⟩
    have l2 : ∀ n : Nat, n ≤ 1000 → n ≤ sizeLine := fun n h => Nat.le_trans h (by decide)
    refine ⟨_, rfl, fun a1 H1 e1 r1 => ⟨_, rfl, fun a2 H2 e2 r2 => ⟨l2 2 (by decide), fun b1 n1 => ⟨_, rfl, fun a3 H3 e3 r3 => ⟨_, rfl, fun a4 H4 e4 r4 => ⟨l2 2 (by decide), fun b2 n2 => ⟨l2 2 (by decide), fun p np => ?_⟩⟩⟩⟩⟩⟩⟩
    have s1 := e1.trans (e2.trans (same_new n1 (o := .lst [.ref a1, .ref a2])))
    have s2 := e3.trans (e4.trans (same_new n2 (o := .lst [.ref a3, .ref a4])))
    have R1 : Row cls y _ 15 b1 := Row.of n1 (as := [a1, a2]) rfl (pair_err (flds_of (i := 15) (n := "NotAFrame") (f := "value") rfl) (r1.mono e2) r2) (cnt_of (i := 15) (n := "NotAFrame") (f := "value") rfl)
    have R2 : Row cls y _ 16 b2 := Row.of n2 (as := [a3, a4]) rfl (pair_err (flds_of (i := 16) (n := "NotAHouse") (f := "value") rfl) (r3.mono e4) r4) (cnt_of (i := 16) (n := "NotAHouse") (f := "value") rfl)
    have sp := same_new np (o := .lst [.ref b1, .ref b2])
    have np0 : H p = none := by
      cases z : H p with
      | none => rfl
      | some o => have z2 := (s1.trans s2) _ _ z; rw [np] at z2; cases z2
    have nb2 : b2 ≠ p := fun z => by rw [← z, upd_same] at np; cases np
    have nb1 : b1 ≠ p := fun z => by have z2 := s2 _ _ (upd_same (H := H2) (a := b1) (o := .lst [.ref a1, .ref a2])); rw [z, np] at z2; cases z2
    have FF : Fnd cls y 15 H p (upd (upd H4 b2 (.lst [.ref a3, .ref a4])) p (.lst [.ref b1, .ref b2])) [b1, b2] := ⟨np0, (s1.trans s2).trans sp, upd_same, Rows.cons ((R1.mono s2).mono sp) (Rows.cons (R2.mono sp) Rows.nil), fun c hc => by rcases List.mem_cons.mp hc with z | z; (subst z; exact nb1); (simp at z; subst z; exact nb2)⟩
    change tSeq _ _ _ [some y, some (.ref p)] _
    generalize upd (upd H4 b2 (HO.lst [.ref a3, .ref a4])) p (HO.lst [.ref b1, .ref b2]) = G2 at FF ⊢
    clear R1 R2 s1 s2 sp np np0 nb1 nb2 n1 n2 r1 r2 r3 r4 e1 e2 e3 e4
    refine ⟨_, rfl, .inl ⟨rfl, _, SqL.of FF.at_⟩, _, rfl, fun a1 H1 e1 r1 => ⟨_, rfl, fun a2 H2 e2 r2 => ⟨l2 2 (by decide), fun b3 n1 => ⟨p, [b1, b2].map V.ref, .ref b3, rfl, rfl, same_new n1 _ _ (FF.grow (e1.trans e2)).at_, Nat.lt_of_lt_of_le (show _ < 1000 by simp) (l2 1000 (by decide)), ?_⟩⟩⟩⟩
    replace FF := (FF.grow (e1.trans e2)).app n1 (i := 17) (as := [a1, a2]) (vs := [.ref a1, .ref a2]) rfl (pair_err (flds_of (i := 17) (n := "NotAnExpr") (f := "value") rfl) (r1.mono e2) r2) rfl (cnt_of (i := 17) (n := "NotAnExpr") (f := "value") rfl)
    generalize upd (upd H2 b3 (HO.lst [.ref a1, .ref a2])) p (HO.lst ([b1, b2].map V.ref ++ [V.ref b3])) = G3 at FF ⊢
    change Fnd cls y _ H p G3 [b1, b2, b3] at FF
    clear n1 r1 r2 e1 e2 
    refine ⟨_, rfl, .inl ⟨rfl, _, SqL.of FF.at_⟩, _, rfl, fun a1 H1 e1 r1 => ⟨_, rfl, fun a2 H2 e2 r2 => ⟨l2 2 (by decide), fun b4 n1 => ⟨p, [b1, b2, b3].map V.ref, .ref b4, rfl, rfl, same_new n1 _ _ (FF.grow (e1.trans e2)).at_, Nat.lt_of_lt_of_le (show _ < 1000 by simp) (l2 1000 (by decide)), ?_⟩⟩⟩⟩
    replace FF := (FF.grow (e1.trans e2)).app n1 (i := 18) (as := [a1, a2]) (vs := [.ref a1, .ref a2]) rfl (pair_err (flds_of (i := 18) (n := "NotAPipe") (f := "value") rfl) (r1.mono e2) r2) rfl (cnt_of (i := 18) (n := "NotAPipe") (f := "value") rfl)
    generalize upd (upd H2 b4 (HO.lst [.ref a1, .ref a2])) p (HO.lst ([b1, b2, b3].map V.ref ++ [V.ref b4])) = G4 at FF ⊢
    change Fnd cls y _ H p G4 [b1, b2, b3, b4] at FF
    clear n1 r1 r2 e1 e2 
    refine ⟨_, rfl, .inl ⟨rfl, _, SqL.of FF.at_⟩, _, rfl, fun a1 H1 e1 r1 => ⟨_, rfl, fun a2 H2 e2 r2 => ⟨l2 2 (by decide), fun b5 n1 => ⟨p, [b1, b2, b3, b4].map V.ref, .ref b5, rfl, rfl, same_new n1 _ _ (FF.grow (e1.trans e2)).at_, Nat.lt_of_lt_of_le (show _ < 1000 by simp) (l2 1000 (by decide)), ?_⟩⟩⟩⟩
    replace FF := (FF.grow (e1.trans e2)).app n1 (i := 19) (as := [a1, a2]) (vs := [.ref a1, .ref a2]) rfl (pair_err (flds_of (i := 19) (n := "NotASheet") (f := "value") rfl) (r1.mono e2) r2) rfl (cnt_of (i := 19) (n := "NotASheet") (f := "value") rfl)
    generalize upd (upd H2 b5 (HO.lst [.ref a1, .ref a2])) p (HO.lst ([b1, b2, b3, b4].map V.ref ++ [V.ref b5])) = G5 at FF ⊢
    change Fnd cls y _ H p G5 [b1, b2, b3, b4, b5] at FF
    clear n1 r1 r2 e1 e2 
    refine ⟨_, rfl, .inl ⟨rfl, _, SqL.of FF.at_⟩, _, rfl, fun a1 H1 e1 r1 => ⟨_, rfl, fun a2 H2 e2 r2 => ⟨l2 2 (by decide), fun b6 n1 => ⟨p, [b1, b2, b3, b4, b5].map V.ref, .ref b6, rfl, rfl, same_new n1 _ _ (FF.grow (e1.trans e2)).at_, Nat.lt_of_lt_of_le (show _ < 1000 by simp) (l2 1000 (by decide)), ?_⟩⟩⟩⟩
    replace FF := (FF.grow (e1.trans e2)).app n1 (i := 20) (as := [a1, a2]) (vs := [.ref a1, .ref a2]) rfl (pair_err (flds_of (i := 20) (n := "UnknownSource") (f := "name") rfl) (r1.mono e2) r2) rfl (cnt_of (i := 20) (n := "UnknownSource") (f := "name") rfl)
    generalize upd (upd H2 b6 (HO.lst [.ref a1, .ref a2])) p (HO.lst ([b1, b2, b3, b4, b5].map V.ref ++ [V.ref b6])) = G6 at FF ⊢
    change Fnd cls y _ H p G6 [b1, b2, b3, b4, b5, b6] at FF
    clear n1 r1 r2 e1 e2 
    refine ⟨_, rfl, .inl ⟨rfl, _, SqL.of FF.at_⟩, _, rfl, fun a1 H1 e1 r1 => ⟨_, rfl, fun a2 H2 e2 r2 => ⟨l2 2 (by decide), fun b7 n1 => ⟨p, [b1, b2, b3, b4, b5, b6].map V.ref, .ref b7, rfl, rfl, same_new n1 _ _ (FF.grow (e1.trans e2)).at_, Nat.lt_of_lt_of_le (show _ < 1000 by simp) (l2 1000 (by decide)), ?_⟩⟩⟩⟩
    replace FF := (FF.grow (e1.trans e2)).app n1 (i := 21) (as := [a1, a2]) (vs := [.ref a1, .ref a2]) rfl (pair_err (flds_of (i := 21) (n := "UnknownColumn") (f := "name") rfl) (r1.mono e2) r2) rfl (cnt_of (i := 21) (n := "UnknownColumn") (f := "name") rfl)
    generalize upd (upd H2 b7 (HO.lst [.ref a1, .ref a2])) p (HO.lst ([b1, b2, b3, b4, b5, b6].map V.ref ++ [V.ref b7])) = G7 at FF ⊢
    change Fnd cls y _ H p G7 [b1, b2, b3, b4, b5, b6, b7] at FF
    clear n1 r1 r2 e1 e2 
    refine ⟨_, rfl, .inl ⟨rfl, _, SqL.of FF.at_⟩, _, rfl, fun a1 H1 e1 r1 => ⟨_, rfl, fun a2 H2 e2 r2 => ⟨l2 2 (by decide), fun b8 n1 => ⟨p, [b1, b2, b3, b4, b5, b6, b7].map V.ref, .ref b8, rfl, rfl, same_new n1 _ _ (FF.grow (e1.trans e2)).at_, Nat.lt_of_lt_of_le (show _ < 1000 by simp) (l2 1000 (by decide)), ?_⟩⟩⟩⟩
    replace FF := (FF.grow (e1.trans e2)).app n1 (i := 22) (as := [a1, a2]) (vs := [.ref a1, .ref a2]) rfl (pair_err (flds_of (i := 22) (n := "DoubleColumn") (f := "name") rfl) (r1.mono e2) r2) rfl (cnt_of (i := 22) (n := "DoubleColumn") (f := "name") rfl)
    generalize upd (upd H2 b8 (HO.lst [.ref a1, .ref a2])) p (HO.lst ([b1, b2, b3, b4, b5, b6, b7].map V.ref ++ [V.ref b8])) = G8 at FF ⊢
    change Fnd cls y _ H p G8 [b1, b2, b3, b4, b5, b6, b7, b8] at FF
    clear n1 r1 r2 e1 e2 
    refine ⟨_, rfl, .inl ⟨rfl, _, SqL.of FF.at_⟩, _, rfl, fun a1 H1 e1 r1 => ⟨_, rfl, fun a2 H2 e2 r2 => ⟨l2 2 (by decide), fun b9 n1 => ⟨p, [b1, b2, b3, b4, b5, b6, b7, b8].map V.ref, .ref b9, rfl, rfl, same_new n1 _ _ (FF.grow (e1.trans e2)).at_, Nat.lt_of_lt_of_le (show _ < 1000 by simp) (l2 1000 (by decide)), ?_⟩⟩⟩⟩
    replace FF := (FF.grow (e1.trans e2)).app n1 (i := 23) (as := [a1, a2]) (vs := [.ref a1, .ref a2]) rfl (pair_err (flds_of (i := 23) (n := "WrongKind") (f := "word") rfl) (r1.mono e2) r2) rfl (cnt_of (i := 23) (n := "WrongKind") (f := "word") rfl)
    generalize upd (upd H2 b9 (HO.lst [.ref a1, .ref a2])) p (HO.lst ([b1, b2, b3, b4, b5, b6, b7, b8].map V.ref ++ [V.ref b9])) = G9 at FF ⊢
    change Fnd cls y _ H p G9 [b1, b2, b3, b4, b5, b6, b7, b8, b9] at FF
    clear n1 r1 r2 e1 e2 
    have RR := FF.rows
    have AT := FF.at_
    have SM := FF.sm
    refine ⟨_, rfl, fun a1 H1 e1 r1 => ⟨l2 1 (by decide), fun c1 m1 => ⟨_, rfl, fun a2 H2 e2 r2 => ⟨_, rfl, fun a3 H3 e3 r3 => ⟨l2 2 (by decide), fun c2 m2 => fun a4 H4 e4 r4 => ⟨l2 1 (by decide), fun c3 m3 => fun a5 H5 e5 r5 => ⟨l2 1 (by decide), fun c4 m4 => ⟨l2 4 (by decide), fun d nd => ⟨_, d, [b1, b2, b3, b4, b5, b6, b7, b8, b9].map V.ref, _, rfl, rfl, (e1.trans ((same_new m1).trans (e2.trans (e3.trans ((same_new m2).trans (e4.trans ((same_new m3).trans (e5.trans ((same_new m4).trans (same_new nd)))))))))) _ _ AT, upd_same, l2 13 (by decide), fun p2 np => ?_⟩⟩⟩⟩⟩⟩⟩⟩⟩
    have qd := same_new nd (o := .lst [.ref c1, .ref c2, .ref c3, .ref c4])
    have qp := same_new np (o := .lst ([b1, b2, b3, b4, b5, b6, b7, b8, b9].map V.ref ++ [.ref c1, .ref c2, .ref c3, .ref c4]))
    have q1 := same_new m1 (o := .lst [.ref a1])
    have W1 : Row cls y _ 24 c1 := Row.of m1 (as := [a1]) rfl (one_err (flds_no (i := 24) (n := "DifferentSchemas") rfl) r1) (cnt_no (i := 24) (n := "DifferentSchemas") rfl)
    have q2 := same_new m2 (o := .lst [.ref a2, .ref a3])
    have W2 : Row cls y _ 25 c2 := Row.of m2 (as := [a2, a3]) rfl (pair_err (flds_of (i := 25) (n := "DoesNotApply") (f := "index") rfl) (r2.mono e3) r3) (cnt_of (i := 25) (n := "DoesNotApply") (f := "index") rfl)
    have q3 := same_new m3 (o := .lst [.ref a4])
    have W3 : Row cls y _ 26 c3 := Row.of m3 (as := [a4]) rfl (one_err (flds_no (i := 26) (n := "NotSimple") rfl) r4) (cnt_no (i := 26) (n := "NotSimple") rfl)
    have q4 := same_new m4 (o := .lst [.ref a5])
    have W4 : Row cls y _ 27 c4 := Row.of m4 (as := [a5]) rfl (one_err (flds_no (i := 27) (n := "NoText") rfl) r5) (cnt_no (i := 27) (n := "NoText") rfl)
    have GS := (e1.trans (q1.trans (e2.trans (e3.trans (q2.trans (e4.trans (q3.trans (e5.trans (q4.trans (qd.trans qp))))))))))
    have RN : Rows cls y _ 15 ([b1, b2, b3, b4, b5, b6, b7, b8, b9] ++ [c1, c2, c3, c4]) := (RR.mono GS).append (Rows.cons (W1.mono (e2.trans (e3.trans (q2.trans (e4.trans (q3.trans (e5.trans (q4.trans (qd.trans qp))))))))) (Rows.cons (W2.mono (e4.trans (q3.trans (e5.trans (q4.trans (qd.trans qp)))))) (Rows.cons (W3.mono (e5.trans (q4.trans (qd.trans qp)))) (Rows.cons (W4.mono (qd.trans qp)) Rows.nil))))
    replace SM := SM.trans GS
    have AN : (upd (upd (upd H5 c4 (.lst [V.ref a5])) d (.lst [V.ref c1, V.ref c2, V.ref c3, V.ref c4])) p2 (.lst ([b1, b2, b3, b4, b5, b6, b7, b8, b9].map V.ref ++ [V.ref c1, V.ref c2, V.ref c3, V.ref c4]))) p2 = some (.lst ([b1, b2, b3, b4, b5, b6, b7, b8, b9].map V.ref ++ [V.ref c1, V.ref c2, V.ref c3, V.ref c4])) := upd_same
    generalize upd (upd (upd H5 c4 (HO.lst [V.ref a5])) d (HO.lst [V.ref c1, V.ref c2, V.ref c3, V.ref c4])) p2 (HO.lst ([b1, b2, b3, b4, b5, b6, b7, b8, b9].map V.ref ++ [V.ref c1, V.ref c2, V.ref c3, V.ref c4])) = G13 at AN RN SM ⊢
    clear FF RR AT GS qd qp q1 q2 q3 q4 W1 W2 W3 W4 nd np m1 m2 m3 m4 r1 r2 r3 r4 r5 e1 e2 e3 e4 e5
    obtain ⟨x1, hx1⟩ : ∃ x, x = c1 := ⟨_, rfl⟩; obtain ⟨x2, hx2⟩ : ∃ x, x = c2 := ⟨_, rfl⟩; obtain ⟨x3, hx3⟩ : ∃ x, x = c3 := ⟨_, rfl⟩; obtain ⟨x4, hx4⟩ : ∃ x, x = c4 := ⟨_, rfl⟩
    rw [← hx1, ← hx2, ← hx3, ← hx4] at AN RN
    clear hx1 hx2 hx3 hx4
    have AT : G13 p2 = some (.lst ([b1, b2, b3, b4, b5, b6, b7, b8, b9, x1, x2, x3, x4].map V.ref)) := AN
    have RR : Rows cls y G13 15 [b1, b2, b3, b4, b5, b6, b7, b8, b9, x1, x2, x3, x4] := RN
    clear AN RN
    refine ⟨_, rfl, fun a1 H1 e1 r1 => ⟨l2 1 (by decide), fun c1 m1 => fun a2 H2 e2 r2 => ⟨l2 1 (by decide), fun c2 m2 => fun a3 H3 e3 r3 => ⟨l2 1 (by decide), fun c3 m3 => ⟨_, rfl, fun a4 H4 e4 r4 => ⟨_, rfl, fun a5 H5 e5 r5 => ⟨l2 2 (by decide), fun c4 m4 => ⟨l2 4 (by decide), fun d nd => ⟨_, d, [b1, b2, b3, b4, b5, b6, b7, b8, b9, x1, x2, x3, x4].map V.ref, _, rfl, rfl, (e1.trans ((same_new m1).trans (e2.trans ((same_new m2).trans (e3.trans ((same_new m3).trans (e4.trans (e5.trans ((same_new m4).trans (same_new nd)))))))))) _ _ AT, upd_same, l2 17 (by decide), fun p2 np => ?_⟩⟩⟩⟩⟩⟩⟩⟩⟩
    have qd := same_new nd (o := .lst [.ref c1, .ref c2, .ref c3, .ref c4])
    have qp := same_new np (o := .lst ([b1, b2, b3, b4, b5, b6, b7, b8, b9, x1, x2, x3, x4].map V.ref ++ [.ref c1, .ref c2, .ref c3, .ref c4]))
    have q1 := same_new m1 (o := .lst [.ref a1])
    have W1 : Row cls y _ 28 c1 := Row.of m1 (as := [a1]) rfl (one_err (flds_no (i := 28) (n := "Closed") rfl) r1) (cnt_no (i := 28) (n := "Closed") rfl)
    have q2 := same_new m2 (o := .lst [.ref a2])
    have W2 : Row cls y _ 29 c2 := Row.of m2 (as := [a2]) rfl (one_err (flds_no (i := 29) (n := "Busy") rfl) r2) (cnt_no (i := 29) (n := "Busy") rfl)
    have q3 := same_new m3 (o := .lst [.ref a3])
    have W3 : Row cls y _ 30 c3 := Row.of m3 (as := [a3]) rfl (one_err (flds_no (i := 30) (n := "NothingToUndo") rfl) r3) (cnt_no (i := 30) (n := "NothingToUndo") rfl)
    have q4 := same_new m4 (o := .lst [.ref a4, .ref a5])
    have W4 : Row cls y _ 31 c4 := Row.of m4 (as := [a4, a5]) rfl (pair_err (flds_of (i := 31) (n := "TooMany") (f := "limit") rfl) (r4.mono e5) r5) (cnt_of (i := 31) (n := "TooMany") (f := "limit") rfl)
    have GS := (e1.trans (q1.trans (e2.trans (q2.trans (e3.trans (q3.trans (e4.trans (e5.trans (q4.trans (qd.trans qp))))))))))
    have RN : Rows cls y _ 15 ([b1, b2, b3, b4, b5, b6, b7, b8, b9, x1, x2, x3, x4] ++ [c1, c2, c3, c4]) := (RR.mono GS).append (Rows.cons (W1.mono (e2.trans (q2.trans (e3.trans (q3.trans (e4.trans (e5.trans (q4.trans (qd.trans qp))))))))) (Rows.cons (W2.mono (e3.trans (q3.trans (e4.trans (e5.trans (q4.trans (qd.trans qp))))))) (Rows.cons (W3.mono (e4.trans (e5.trans (q4.trans (qd.trans qp))))) (Rows.cons (W4.mono (qd.trans qp)) Rows.nil))))
    exact q p2 _ _ (SM.trans GS) upd_same rfl RN
end
end Z
set_option Elab.async false
set_option linter.all false
set_option autoImplicit false
set_option maxRecDepth 100000
set_option maxHeartbeats 4000000
namespace Z
open PySem PySem.Spec PyProof.Rows L2
def ds0 : List PyData := [.none, .int 0, .bool true, .str "a", .tuple [.str "a", .int 1], .list [], .dict [], .int (10 ^ (29 : Int).toNat), .str "b:int", .tuple [.tuple [], .tuple [.none]]]
def fine (d : PyData) : Bool := d.showable && (decide (d.shown.length ≤ 100) && (decide (d.depth ≤ 10) && (PyData.strOk d.shown && (PyData.list [.list [d], .list [d], .list [d], .list [d]]).showable)))
  && (decide ((PyData.list [.list [d], .list [d], .list [d], .list [d]]).shown.length ≤ 1000) && decide ((PyData.list [.list [d], .list [d], .list [d], .list [d]]).depth ≤ 64))
theorem ds0_fine : ds0.all fine = true := by decide +kernel
structure Fine (d : PyData) : Prop where
  ok : ShowOk d
  st : PyData.strOk d.shown = true
  ok4 : ShowOk (.list [.list [d], .list [d], .list [d], .list [d]])
theorem fine_of {d : PyData} (h : fine d = true) : Fine d := by
  unfold fine at h
  simp only [Bool.and_eq_true, decide_eq_true_eq] at h
  obtain ⟨⟨h1, h2, h3, h4, h5⟩, h6, h7⟩ := h
  have big : (1000 : Nat) ≤ sizeLine := by decide
  exact ⟨⟨h1, by omega, by omega⟩, h4, h5, by omega, h7⟩
theorem eqv_is (i : Int) (z : Str) : PyData.eqv (.list [.int i, .str z]) (.list [.int i, .str z]) = true := by simp [PyData.eqv, PyData.eqvAll]
def spRight : Sp := fun vs H Q _ => ∃ p, vs = [.ref p] ∧ H p = some (Pool p) ∧ ∀ H', Same H H' → Q (.bl true) H'
section
variable {P : Program} {w : World} {K : PySem.W.Frag} {mg : Str → Option Value} {base : Heap} {cls bas : Nat → Addr}
theorem kn__law_right (D : Def0 K mg "_law_right" (top 44)) (T : Txt K mg) (ET : ErrT P w K mg base cls bas) (F__law_draw : Kn P w K mg base CX0 "_law_draw" 1 ["pool", "many"] [] spDraw) (F__law_error : Kn P w K mg base CX0 "_law_error" 1 ["e"] [] (spErrNo K cls))
    (F__law_field : KnG P w K mg base CX0 "_law_field" 1 ["e", "at"] [] (spField K cls)) (F__law_first : Kn P w K mg base CX0 "_law_first" 3 ["worth"] [] (spFirst cls 0 15)) (F__law_second : Kn P w K mg base CX0 "_law_second" 3 ["worth"] [] (spFirst cls 15 17)) : KnG P w K mg base CX0 "_law_right" 4 ["pool"] [] spRight := by
  obtain ⟨f, fd, F, m⟩ := D
  have sc_ : FnScope ["pool", "worth", "rows_here", "k", "one", "due", "some", "kept_here", "told"] ["pool"] (defScope (top 44)) := ⟨rfl, rfl, rfl, by decide +kernel, rfl, by decide +kernel, by decide +kernel⟩
  refine kn_ofG F m (okG F sc_ (fun vs H Q E h => ?_) (fun cdv A outer s H vs Q E hr st h => ?_)) (F.bindsN fun _ _ _ _ _ _ us hl => match us, hl with | [_], _ => rfl)
  · obtain ⟨p, rfl, _⟩ := h; rfl
  · obtain ⟨p, rfl, hp, q⟩ := h
    refine ⟨_, PSs.nox (pss_cons (ps_set (i := 1) sc_.nd rfl (by first | exact Or.inl rfl | exact Or.inr rfl) (pe_ix (k_ixL (K := K)) (pe_lst (pa_cons pe_non (pa_cons pe_int (pa_cons pe_bl (pa_cons pe_str (pa_cons (pe_tup (pa_cons pe_str (pa_cons pe_int pa_nil))) (pa_cons (pe_lst pa_nil) (pa_cons pe_dnewK (pa_cons (pe_op op_pow pe_int pe_int) (pa_cons pe_str (pa_cons (pe_tup (pa_cons (pe_tup pa_nil) (pa_cons (pe_tup (pa_cons pe_non pa_nil)) pa_nil))) pa_nil))))))))))) (pe_own F__law_draw hr (by decide) pass0 (pa_cons (pv 0) (pa_cons pe_int pa_nil))) (fun _ _ => rfl)))
      (pss_cons (ps_set (i := 2) sc_.nd rfl (by first | exact Or.inl rfl | exact Or.inr rfl) (pe_op op_cat (pe_own F__law_first hr (by decide) pass0 (pa_cons (pv 1) pa_nil)) (pe_own F__law_second hr (by decide) pass0 (pa_cons (pv 1) pa_nil))))
      (pss_cons (ps_for PassesOwn.never rfl (pi_range1 (by rfl) T.z_range (pa_cons (pe_callB (k_len (K := K)) (by rfl) T.z_len (by decide +kernel) (pa_cons (pv 2) pa_nil)) pa_nil)) (pg_name (i := 3) sc_.nd rfl (by first | exact Or.inl rfl | exact Or.inr rfl))
        (pss_one (ps_for PassesOwn.never rfl (k_list (K := K) (pe_ix (k_ixL (K := K)) (pv 2) (pv 3) (fun _ _ => rfl))) (pg_name (i := 4) sc_.nd rfl (by first | exact Or.inl rfl | exact Or.inr rfl))
        (pss_cons (ps_set (i := 5) sc_.nd rfl (by first | exact Or.inl rfl | exact Or.inr rfl) (pe_ifExp (pt_cmpR op_eq (pe_callB (k_len (K := K)) (by rfl) T.z_len (by decide +kernel) (pa_cons (pe_ix (k_ixL (K := K)) (pv 2) (pv 3) (fun _ _ => rfl)) pa_nil)) pe_int (nomark _)) (pe_callB (k_repr (K := K) hr st) (by rfl) T.z_repr (by decide +kernel) (pa_cons (pv 1) pa_nil)) pe_str))
      (pss_one (ps_if (pt_cmpR (k_neD (K := K) hr.units) (pe_lst (pa_cons (pe_own F__law_error hr (by decide) pass0 (pa_cons (pv 4) pa_nil)) (pa_cons (pe_ownG F__law_field hr st (by decide) pass0 (pa_cons (pv 4) (pa_cons (pv 3) pa_nil))) pa_nil))) (pe_lst (pa_cons (pv 3) (pa_cons (pv 5) pa_nil))) (nomark _)) (pss_one (ps_ret pe_bl)) pss_nil))))))
      (pss_cons (ps_set (i := 6) sc_.nd rfl (by first | exact Or.inl rfl | exact Or.inr rfl) (pe_lst pa_nil))
      (pss_cons (ps_set (i := 7) sc_.nd rfl (by first | exact Or.inl rfl | exact Or.inr rfl) (pe_lst (pa_cons (pe_err (ET.em 0 "InvalidName" "name" rfl) hr (by decide) (pv 6)) (pa_cons (pe_errKw (ET.em 12 "InvalidText" "text" rfl) hr (by decide) (pv 6)) (pa_cons (pe_err (ET.em 15 "NotAFrame" "value" rfl) hr (by decide) (pv 6)) (pa_cons (pe_err (ET.em 21 "UnknownColumn" "name" rfl) hr (by decide) (pv 6)) pa_nil))))))
      (pss_cons (ps_expr (k_bm (K := K) PySem.F.plainAttrs_list PySem.F.slot_list_append PySem.F.type_list_append mt_append (pv 6) (pa_cons (pv 1) pa_nil)))
      (pss_cons (ps_set (i := 8) sc_.nd rfl (by first | exact Or.inl rfl | exact Or.inr rfl) (pe_lst (pa_cons (k_errF (K := K) (pe_ix (k_ixL (K := K)) (pv 7) pe_int (fun _ _ => rfl)) rfl) (pa_cons (k_errF (K := K) (pe_ix (k_ixL (K := K)) (pv 7) pe_int (fun _ _ => rfl)) rfl) (pa_cons (k_errF (K := K) (pe_ix (k_ixL (K := K)) (pv 7) pe_int (fun _ _ => rfl)) rfl) (pa_cons (k_errF (K := K) (pe_ix (k_ixL (K := K)) (pv 7) pe_int (fun _ _ => rfl)) rfl) pa_nil))))))
      (pss_one (ps_ret (pe_and (pe_cmpR op_eq (pe_callB (k_len (K := K)) (by rfl) T.z_len (by decide +kernel) (pa_cons (pv 2) pa_nil)) pe_int (nomark _)) (pe_one (pe_cmpR op_eq (pe_callB (k_repr (K := K) hr st) (by rfl) T.z_repr (by decide +kernel) (pa_cons (pv 8) pa_nil)) (pe_callB (k_repr (K := K) hr st) (by rfl) T.z_repr (by decide +kernel) (pa_cons (pe_op op_rep (pe_lst (pa_cons (pv 6) pa_nil)) pe_int) pa_nil)) (nomark _))))))))))))), ?_⟩
    have l2 : ∀ n : Nat, n ≤ 1000 → n ≤ sizeLine := fun n h => Nat.le_trans h (by decide)
    refine ⟨l2 2 (by decide), fun t1 k1 => ⟨l2 0 (by decide), fun t2 k2 => fun t3 k3 => ⟨_, _, rfl, rfl, ⟨by decide, by decide, by decide⟩, l2 0 (by decide), fun t4 k4 => ⟨l2 1 (by decide), fun t5 k5 => ⟨l2 2 (by decide), fun t6 k6 => ⟨l2 10 (by decide), fun t7 k7 => ?_⟩⟩⟩⟩⟩⟩
    have e1 := same_new k1 (o := .tup [.str "a", .int 1])
    have e2 := same_new k2 (o := .lst [])
    have e3 := same_new k3 (o := .dK [])
    have e4 := same_new k4 (o := .tup [])
    have e5 := same_new k5 (o := .tup [.non])
    have e6 := same_new k6 (o := .tup [.ref t4, .ref t5])
    have e7 := same_new k7 (o := .lst [.non, .int 0, .bl true, .str "a", .ref t1, .ref t2, .ref t3, .int (10 ^ (29 : Int).toNat), .str "b:int", .ref t6])
    have s6 := e6.trans e7
    have s5 := e5.trans s6
    have s4 := e4.trans s5
    have s3 := e3.trans s4
    have s2 := e2.trans s3
    have s1 := e1.trans s2
    have sm : ∀ z : Str, z.length ≤ 20 → z.length ≤ 1000000 := fun z h => Nat.le_trans h (by decide)
    refine ⟨_, rfl, p, 10, rfl, s1 _ _ hp, by decide, by decide, fun n H1 n0 n1 g1 => ?_⟩
    obtain ⟨n, rfl⟩ : ∃ m : Nat, n = (m : Int) := ⟨n.toNat, by omega⟩
    have hn : n < 10 := by omega
    have all : DaL K _ [.non, .int 0, .bl true, .str "a", .ref t1, .ref t2, .ref t3, .int (10 ^ (29 : Int).toNat), .str "b:int", .ref t6] ds0 := DaL.mono g1 (.cons .non (.cons (.int _) (.cons (.bl _) (.cons (.str _ (sm _ (by decide +kernel))) (.cons (.tup (SqT.of (s2 _ _ upd_same)) (.cons (.str _ (sm _ (by decide +kernel))) (.cons (.int _) .nil)))
      (.cons (.lst (SqL.of (s3 _ _ upd_same)) .nil) (.cons (.dic (s4 _ _ upd_same)) (.cons (.int _) (.cons (.str _ (sm _ (by decide +kernel))) (.cons (.tup (SqT.of (e7 _ _ upd_same)) (.cons (.tup (SqT.of (s5 _ _ upd_same)) .nil) (.cons (.tup (SqT.of (s6 _ _ upd_same)) (.cons .non .nil)) .nil))) .nil))))))))))
    have at7 := g1 _ _ (upd_same (a := t7) (o := .lst [.non, .int 0, .bl true, .str "a", .ref t1, .ref t2, .ref t3, .int (10 ^ (29 : Int).toNat), .str "b:int", .ref t6]))
    generalize hxs : ([.non, .int 0, .bl true, .str "a", .ref t1, .ref t2, .ref t3, .int (10 ^ (29 : Int).toNat), .str "b:int", .ref t6] : List V) = xs at all at7
    have hl : n < xs.length := by rw [← hxs]; exact hn
    refine ⟨t7, xs, _, xs[n], rfl, rfl, SqL.of at7, atI_nat (List.getElem?_eq_getElem hl), ?_⟩
    obtain ⟨d, hd1, hd⟩ := all.get (List.getElem?_eq_getElem hl)
    have fd := fine_of (List.all_eq_true.mp ds0_fine d (List.mem_of_getElem? hd1))
    generalize xs[n] = v at hd ⊢
    have S1 := s1.trans g1
    clear all at7 hxs e1 e2 e3 e4 e5 e6 e7 s1 s2 s3 s4 s5 s6 k1 k2 k3 k4 k5 k6 k7 g1
    -- the rows
    refine ⟨_, rfl, v, rfl, fun p1 bs1 H2 x2 a2 c2 R2 => ⟨_, rfl, v, rfl, fun p2 bs2 H3 x3 a3 c3 R3 => ⟨_, _, _, _, rfl, rfl, x3 _ _ a2, a3, by rw [List.length_map, List.length_map, c2, c3]; exact l2 32 (by decide), fun r nr => ?_⟩⟩⟩
    have xr := same_new nr (o := .lst (bs1.map V.ref ++ bs2.map V.ref))
    have hd4 := hd.mono (x2.trans (x3.trans xr))
    have S4 := S1.trans (x2.trans (x3.trans xr))
    have RR : Rows cls v (upd H3 r (.lst (bs1.map V.ref ++ bs2.map V.ref))) 0 (bs1 ++ bs2) := (R2.mono (x3.trans xr)).append (by rw [c2]; exact R3.mono xr)
    have AT : upd H3 r (.lst (bs1.map V.ref ++ bs2.map V.ref)) r = some (.lst ((bs1 ++ bs2).map V.ref)) := by rw [upd_same, List.map_append]
    have hlen : (bs1 ++ bs2).length = 32 := by rw [List.length_append, c2, c3]
    generalize upd H3 r (HO.lst (bs1.map V.ref ++ bs2.map V.ref)) = H4 at hd4 RR AT S4 ⊢
    generalize bs1 ++ bs2 = bs at RR AT hlen
    clear R2 R3 a2 a3 c2 c3 x2 x3 xr nr hd
    refine ⟨_, rfl, r, _, rfl, .inl (SqL.of AT), _, rfl, by simp [hlen], by simp [hlen], ?_⟩
    have tn : ((((bs.map V.ref).length : Nat) : Int)).toNat = 32 := by simp [hlen]
    rw [tn]
    refine for_range (lo := 0) (n := 32) (fun i σ H' => ∃ o3 o4 o5, σ = [some (.ref p), some v, some (.ref r), o3, o4, o5, none, none, none] ∧ Same H4 H') ⟨none, none, none, rfl, Same.refl _⟩ ?_ ?_
    · rintro i σ H5 hi ⟨o3, o4, o5, rfl, x5⟩
      obtain ⟨b, hb⟩ : ∃ b, bs[i]? = some b := ⟨_, List.getElem?_eq_getElem (by rw [hlen]; exact hi)⟩
      obtain ⟨as, ha1, ha2, ha3⟩ := RR i b hb
      rw [Nat.zero_add] at ha2 ha3
      have hbr : (bs.map V.ref)[i]? = some (.ref b) := by rw [List.getElem?_map, hb]; rfl
      rw [show (0 : Int) + (i : Nat) = (i : Nat) from Int.zero_add _]
      refine ⟨_, rfl, _, rfl, r, _, _, .ref b, rfl, rfl, SqL.of (x5 _ _ AT), atI_nat hbr, b, rfl, ⟨_, SqL.of (x5 _ _ ha1)⟩, for_list (K := K) (a := b) (xs := as.map V.ref) (fun j σ H' => ∃ o4 o5, σ = [some (.ref p), some v, some (.ref r), some (.int (i : Nat)), o4, o5, none, none, none] ∧ Same H4 H') ⟨_, _, rfl, x5⟩ (fun j σ H' _ ⟨_, _, _, e⟩ => SqL.of (e _ _ ha1)) ?_ ?_⟩
      · rintro j x σ H6 hj ⟨o4, o5, rfl, x6⟩
        obtain ⟨a, ha, rfl⟩ : ∃ a, a ∈ as ∧ x = V.ref a := by
          obtain ⟨a, h1, h2⟩ := List.mem_map.mp (List.mem_of_getElem? hj)
          exact ⟨a, h1, h2.symm⟩
        have er := (ha2 a ha).mono x6
        obtain ⟨⟨n, fo⟩, hn⟩ : ∃ q, errs[i]? = some q := ⟨_, List.getElem?_eq_getElem (show i < 32 from hi)⟩
        refine ⟨_, rfl, _, rfl, r, _, _, .ref b, rfl, rfl, SqL.of (x6 _ _ AT), atI_nat hbr, b, as.map V.ref, rfl, .inl (SqL.of (x6 _ _ ha1)), rfl, _, rfl, ?_⟩
        cases fo with
        | some f0 =>
          have two : decide (V.int ((as.map V.ref).length : Nat) = V.int 2) = true := by rw [List.length_map, ha3, ← cnt_of hn]; rfl
          rw [two]
          refine iteT ⟨_, rfl, v, d, rfl, hd4.mono x6, fd.ok.1, fd.ok.2.1, fd.ok.2.2, ?_⟩
          have hz := fd.st
          refine ⟨_, rfl, a, i, flds i v, rfl, hi, er, fun H7 x7 => ⟨_, rfl, _, rfl, a, i, flds i v, n, some f0, d.shown, rfl, hn, er.mono x7, ⟨v, d, flds_of hn, (hd4.mono x6).mono x7, fd.ok, rfl⟩, fun H8 x8 => ⟨l2 2 (by decide), fun u1 w1 => ⟨_, rfl, _, rfl, l2 2 (by decide), fun u2 w2 => ⟨_, _, .lst (SqL.of (same_new w2 _ _ upd_same)) (.cons (.int _) (.cons (.str _) .nil)), .lst (SqL.of upd_same) (.cons (.int _) (.cons (.str _) .nil)), ?_, ?_, _, rfl, ?_⟩⟩⟩⟩⟩
          · simp [SeqAt.shaped, PyData.canLay0, PyData.canLayAll0, PyData.depth, PyData.depthAll, hz]
          · simp [SeqAt.shaped, PyData.canLay0, PyData.canLayAll0, PyData.depth, PyData.depthAll, hz]
          · rw [eqv_is]
            exact iteF ⟨_, _, rfl, x6.trans (x7.trans (x8.trans ((same_new w1).trans (same_new w2))))⟩
        | none =>
          have two : decide (V.int ((as.map V.ref).length : Nat) = V.int 2) = false := by rw [List.length_map, ha3, ← cnt_no hn]; rfl
          rw [two]
          refine iteF ?_
          refine ⟨_, rfl, a, i, flds i v, rfl, hi, er, fun H7 x7 => ⟨_, rfl, _, rfl, a, i, flds i v, n, none, ("" : Str), rfl, hn, er.mono x7, rfl, fun H8 x8 => ⟨l2 2 (by decide), fun u1 w1 => ⟨_, rfl, _, rfl, l2 2 (by decide), fun u2 w2 => ⟨_, _, .lst (SqL.of (same_new w2 _ _ upd_same)) (.cons (.int _) (.cons (.str _) .nil)), .lst (SqL.of upd_same) (.cons (.int _) (.cons (.str _) .nil)), ?_, ?_, _, rfl, ?_⟩⟩⟩⟩⟩
          · simp [SeqAt.shaped, PyData.canLay0, PyData.canLayAll0, PyData.depth, PyData.depthAll]; decide +kernel
          · simp [SeqAt.shaped, PyData.canLay0, PyData.canLayAll0, PyData.depth, PyData.depthAll]; decide +kernel
          rw [eqv_is]
          exact iteF ⟨_, _, rfl, x6.trans (x7.trans (x8.trans ((same_new w1).trans (same_new w2))))⟩
      · rintro σ H6 ⟨o4, o5, rfl, x6⟩
        exact ⟨_, _, _, rfl, x6⟩
    · rintro σ H5 ⟨o3, o4, o5, rfl, x5⟩
      refine ⟨l2 0 (by decide), fun q1 m1 => ?_⟩
      change tSeq _ _ _ [some (.ref p), some v, some (.ref r), o3, o4, o5, some (.ref q1), none, none] _
      refine ⟨_, rfl, fun a1 G1 y1 z1 => ⟨_, rfl, fun a2 G2 y2 z2 => ⟨_, rfl, fun a3 G3 y3 z3 => ⟨_, rfl, fun a4 G4 y4 z4 => ⟨l2 4 (by decide), fun q2 m2 => ?_⟩⟩⟩⟩⟩
      have hq := upd_same (H := H5) (a := q1) (o := .lst [])
      have w2 := same_new m2 (o := .lst [.ref a1, .ref a2, .ref a3, .ref a4])
      have f1 := (z1.mono (y2.trans (y3.trans y4))).mono w2
      have f2 := (z2.mono (y3.trans y4)).mono w2
      have f3 := (z3.mono y4).mono w2
      have f4 := z4.mono w2
      have up := ((y1.trans y2).trans (y3.trans y4)).trans w2
      have hq5 := up _ _ hq
      have s5 := (same_new m1 (o := .lst [])).trans up
      have hk := upd_same (H := G4) (a := q2) (o := .lst [.ref a1, .ref a2, .ref a3, .ref a4])
      have ne : q2 ≠ q1 := fun z => by rw [z] at m2; rw [((y1.trans y2).trans (y3.trans y4)) _ _ hq] at m2; cases m2
      generalize upd G4 q2 (HO.lst [.ref a1, .ref a2, .ref a3, .ref a4]) = G5 at f1 f2 f3 f4 hq5 s5 hk ⊢
      change tSeq _ _ _ [some (.ref p), some v, some (.ref r), o3, o4, o5, some (.ref q1), some (.ref q2), none] _
      refine ⟨_, rfl, .inl ⟨rfl, _, SqL.of hq5⟩, _, rfl, q1, [], v, rfl, rfl, hq5, Nat.lt_of_lt_of_le (show _ < 1000 by decide) (l2 1000 (by decide)), ?_⟩
      have tt := sameT_list (ys := [] ++ [v]) hq5
      have h1 := f1.monoT tt
      have h2 := f2.monoT tt
      have h3 := f3.monoT tt
      have h4 := f4.monoT tt
      have sa : Same H5 (upd G5 q1 (.lst ([] ++ [v]))) := same_app s5 m1
      have hk6 : upd G5 q1 (.lst ([] ++ [v])) q2 = some (.lst [.ref a1, .ref a2, .ref a3, .ref a4]) := by rw [upd_ne ne]; exact hk
      have hq6 : upd G5 q1 (.lst ([] ++ [v])) q1 = some (.lst [v]) := upd_same
      generalize upd G5 q1 (HO.lst ([] ++ [v])) = G6 at h1 h2 h3 h4 sa hk6 hq6 ⊢
      clear f1 f2 f3 f4 tt hq5 s5 hk w2 up hq z1 z2 z3 z4
      have hd6 := hd4.mono (x5.trans sa)
      have AT6 := sa _ _ (x5 _ _ AT)
      refine ⟨_, rfl, q2, _, _, .ref a1, rfl, rfl, SqL.of hk6, atI_nat (j := 0) rfl, a1, cls 0, _, .ref q1, rfl, h1, ET.ec 0 (by decide), (ET.em 0 "InvalidName" "name" rfl).no, rfl, ?_⟩
      refine ⟨_, rfl, q2, _, _, .ref a2, rfl, rfl, SqL.of hk6, atI_nat (j := 1) rfl, a2, cls 12, _, .ref q1, rfl, h2, ET.ec 12 (by decide), (ET.em 12 "InvalidText" "text" rfl).no, rfl, ?_⟩
      refine ⟨_, rfl, q2, _, _, .ref a3, rfl, rfl, SqL.of hk6, atI_nat (j := 2) rfl, a3, cls 15, _, .ref q1, rfl, h3, ET.ec 15 (by decide), (ET.em 15 "NotAFrame" "value" rfl).no, rfl, ?_⟩
      refine ⟨_, rfl, q2, _, _, .ref a4, rfl, rfl, SqL.of hk6, atI_nat (j := 3) rfl, a4, cls 21, _, .ref q1, rfl, h4, ET.ec 21 (by decide), (ET.em 21 "UnknownColumn" "name" rfl).no, rfl, l2 4 (by decide), fun q3 m3 => ?_⟩
      have v3 := same_new m3 (o := .lst [.ref q1, .ref q1, .ref q1, .ref q1])
      have X3 : Da K _ (.ref q1) (.list [d]) := .lst (SqL.of (v3 _ _ hq6)) (.cons (hd6.mono v3) .nil)
      have D3 : Da K _ (.ref q3) (.list [.list [d], .list [d], .list [d], .list [d]]) := .lst (SqL.of (upd_same (H := G6) (a := q3) (o := .lst [.ref q1, .ref q1, .ref q1, .ref q1]))) (.cons X3 (.cons X3 (.cons X3 (.cons X3 .nil))))
      refine ⟨_, rfl, r, _, rfl, .inl (SqL.of (v3 _ _ AT6)), rfl, _, rfl, ?_⟩
      have tt2 : decide (V.int ((bs.map V.ref).length : Nat) = V.int 32) = true := by rw [List.length_map, hlen]; rfl
      rw [tt2]
      refine iteT ⟨_, rfl, .ref q3, _, rfl, D3, fd.ok4.1, fd.ok4.2.1, fd.ok4.2.2, _, rfl, l2 1 (by decide), fun q4 m4 => ⟨q4, 4, [.ref q1], rfl, rfl, upd_same, by decide, by decide, (show 1 * 4 ≤ sizeLine by decide), fun q5 m5 => ?_⟩⟩
      have v4 := (same_new m4 (o := .lst [.ref q1])).trans (same_new m5 (o := .lst (List.replicate (4 : Int).toNat [V.ref q1]).flatten))
      have X5 := X3.mono v4
      have D5 : Da K _ (.ref q5) (.list [.list [d], .list [d], .list [d], .list [d]]) := .lst (SqL.of (upd_same (a := q5) (o := .lst (List.replicate (4 : Int).toNat [V.ref q1]).flatten))) (.cons X5 (.cons X5 (.cons X5 (.cons X5 .nil))))
      refine ⟨.ref q5, _, rfl, D5, fd.ok4.1, fd.ok4.2.1, fd.ok4.2.2, rfl, ?_⟩
      rw [decide_eq_true rfl]
      exact q _ (S4.trans (x5.trans (sa.trans (v3.trans v4))))
end
end Z
set_option Elab.async false
set_option linter.all false
set_option autoImplicit false
set_option maxRecDepth 100000
set_option maxHeartbeats 4000000
namespace Z
open PySem PySem.Spec PyProof.Rows L2
def spLaw (K : PySem.W.Frag) : Sp := fun vs H Q _ => ∃ (a : Addr) (ns : List Int), vs = [.ref a] ∧ SqL K H a (ns.map V.int) ∧ ns.length ≤ 63 ∧ ∀ H', Q (.bl true) H'
section
variable {P : Program} {w : World} {K : PySem.W.Frag} {mg : Str → Option Value} {base : Heap} {C : Addr}
theorem ok_law {f : Addr} {fd : FuncData} (F : FnP K "law" (top 45) f fd) (T : Txt K mg) (F__law_cell : Kn P w K mg base CX0 "_law_cell" 1 ["script", "k"] [] (spLCell K)) (F__law_pool : Kn P w K mg base CX0 "_law_pool" 1 ["cell"] [] spPool)
    (F__law_right : KnG P w K mg base CX0 "_law_right" 4 ["pool"] [] spRight) : FnG P w K mg base CX0 5 f fd ["script"] (spLaw K) := by
  have sc_ : FnScope ["script", "k"] ["script"] (defScope (top 45)) := ⟨rfl, rfl, rfl, by decide +kernel, rfl, by decide +kernel, by decide +kernel⟩
  refine okG F sc_ (fun vs H Q E h => ?_) (fun cdv A outer s H vs Q E hr st h => ?_)
  · obtain ⟨a, ns, rfl, _⟩ := h; rfl
  · obtain ⟨a, ns, rfl, hS, hn, q⟩ := h
    refine ⟨_, PSs.nox (pss_one (ps_ret (pe_callB (k_all (K := K) rfl) (by rfl) T.z_all (by decide +kernel) (pa_cons (pe_lc (own := [("k", 1)]) (g := gName 1) (by rfl) sc_.nd (pi_range1 (by rfl) T.z_range (pa_cons (pe_callB (call_max2 rfl) (by rfl) T.z_max (by decide +kernel) (pa_cons pe_int (pa_cons (pe_callB (call_min2 rfl) (by rfl) T.z_min (by decide +kernel) (pa_cons pe_int (pa_cons (pe_callB (k_len (K := K)) (by rfl) T.z_len (by decide +kernel) (pa_cons (pv 0) pa_nil)) pa_nil))) pa_nil))) pa_nil)) (blkOk_by (N := ["script", "k"]) (sc := defScope (top 45)) (by decide +kernel)) (fun _ _ _ _ _ => (pg_name (i := 1) sc_.nd rfl (by first | exact Or.inl rfl | exact Or.inr rfl))) (fun _ _ _ _ _ => pts_nil) (fun _ _ _ _ _ => (pe_ownG F__law_right hr st (by decide) pass0 (pa_cons (pe_own F__law_pool hr (by decide) pass0 (pa_cons (pe_own F__law_cell hr (by decide) pass0 (pa_cons (pv 0) (pa_cons (pv 1) pa_nil))) pa_nil)) pa_nil)))) pa_nil)))), ?_⟩
    refine ⟨_, rfl, a, _, rfl, .inl hS, _, _, rfl, _, _, rfl, _, rfl, ?_, ?_, fun D hD => lc_ok walk_range (fun i y _ => y = .bl true) hD ?_ (fun _ _ => trivial) (fun _ _ _ _ _ _ h => h) (fun _ _ _ _ h => by rw [h.1]; exact Same.refl _) ?_ ?_⟩
    · split <;> split <;> omega
    · split <;> split <;> omega
    · refine Nat.lt_of_le_of_lt (m := 3) ?_ (by decide)
      split <;> split <;> omega
    · rintro i y H3 H4 hi s3 ⟨rfl, rfl⟩ Q' k
      have hi5 : i < 1000 := by
        refine Nat.lt_of_lt_of_le hi ?_
        split <;> split <;> omega
      exact ⟨rfl, _, rfl, _, rfl, a, ns, _, rfl, Same.seq s3 hS, by omega, by omega, fun c H5 e5 => ⟨c, rfl, fun p H6 hp e6 hp6 => ⟨p, rfl, hp6, fun H7 e7 => k _ _ ((e5.trans e6).trans e7) rfl⟩⟩⟩
    · intro H3 acc s3 hacc hla hra
      have e : acc = (List.replicate acc.length true).map V.bl := by
        apply List.ext_getElem?
        intro i
        by_cases hi : i < acc.length
        · have h1 := hra i acc[i] (List.getElem?_eq_getElem hi)
          rw [List.getElem?_eq_getElem hi, h1, List.getElem?_map, List.getElem?_replicate, if_pos hi]; rfl
        · rw [List.getElem?_eq_none (by omega), List.getElem?_eq_none (by rw [List.length_map, List.length_replicate]; omega)]
      refine ⟨_, List.replicate acc.length true, rfl, SqL.of (by rw [hacc, ← e]), ?_⟩
      have h2 : (List.replicate acc.length true).all id = true := by simp
      rw [h2]
      exact q _
end
end Z
set_option Elab.async false
set_option linter.all false
set_option autoImplicit false
set_option maxRecDepth 100000
set_option maxHeartbeats 4000000
/-! the __init__ of each error class -/
namespace Z
open PySem PySem.Spec PyProof.Rows L2
section
variable {P : Program} {w : World} {K : PySem.W.Frag} {mg : Str → Option Value} {base : Heap} {C f : Addr} {fd : FuncData}
abbrev IniOk (P : Program) (w : World) (K : PySem.W.Frag) (mg : Str → Option Value) (base : Heap) (C f : Addr) (fd : FuncData) (x : Str) : Prop := FnOk P w K mg base CX0 1 f fd ["self", x] (spErr C x) ∧ Binds K fd ["self", x] [] ∧ KBn K fd ["self", x] 1 [x] (fun us ws => us ++ ws) (fun vs zs => vs ++ zs)
theorem in_InvalidName (ec : ErrC K C) (no : PySem.W.findIn K (.ref C) "name" = some none) (F : FunD K "__init__" "InvalidName.__init__" (defArgs (inClass (top 2) 0)) (defBody (inClass (top 2) 0)) (defScope (inClass (top 2) 0)) [] [] f fd) : IniOk P w K mg base C f fd "name" := by
  have sc_ : FnScope ["self", "name"] ["self", "name"] (defScope (inClass (top 2) 0)) := ⟨rfl, rfl, rfl, by decide +kernel, rfl, by decide +kernel, by decide +kernel⟩
  refine ⟨F.ok sc_ (fun vs H Q E h => ?_) (fun cdv A outer s H vs Q E hr h => ?_), F.bindsN fun _ _ _ _ _ _ us hl => match us, hl with | [_, _], _ => rfl, ?_⟩
  · obtain ⟨a, y, rfl, _⟩ := h; rfl
  · obtain ⟨a, y, rfl, ha, q⟩ := h
    exact ⟨_, PSs.nox (pss_one (ps_errSet (pv 0) (pv 1))), _, rfl, _, rfl, a, C, rfl, ec, no, ha, fun dx n1 n2 => q dx n1 n2⟩
  · obtain ⟨oc, od, dV, kV, doc, pm, an, cdv, ct, osl, rfl, _, _, dd, _⟩ := F.ex
    obtain rfl : dV = .none := by
      rcases dd with ⟨_, z⟩ | ⟨z, _⟩
      · exact z
      · exact absurd rfl z
    exact ⟨fun s us ws _ h1 h2 => match us, ws, h1, h2 with | [_], [_], _, _ => .of_eq rfl, fun r1 r2 => r1.append r2⟩
theorem in_InvalidSchema (ec : ErrC K C) (no : PySem.W.findIn K (.ref C) "index" = some none) (F : FunD K "__init__" "InvalidSchema.__init__" (defArgs (inClass (top 3) 0)) (defBody (inClass (top 3) 0)) (defScope (inClass (top 3) 0)) [] [] f fd) : IniOk P w K mg base C f fd "index" := by
  have sc_ : FnScope ["self", "index"] ["self", "index"] (defScope (inClass (top 3) 0)) := ⟨rfl, rfl, rfl, by decide +kernel, rfl, by decide +kernel, by decide +kernel⟩
  refine ⟨F.ok sc_ (fun vs H Q E h => ?_) (fun cdv A outer s H vs Q E hr h => ?_), F.bindsN fun _ _ _ _ _ _ us hl => match us, hl with | [_, _], _ => rfl, ?_⟩
  · obtain ⟨a, y, rfl, _⟩ := h; rfl
  · obtain ⟨a, y, rfl, ha, q⟩ := h
    exact ⟨_, PSs.nox (pss_one (ps_errSet (pv 0) (pv 1))), _, rfl, _, rfl, a, C, rfl, ec, no, ha, fun dx n1 n2 => q dx n1 n2⟩
  · obtain ⟨oc, od, dV, kV, doc, pm, an, cdv, ct, osl, rfl, _, _, dd, _⟩ := F.ex
    obtain rfl : dV = .none := by
      rcases dd with ⟨_, z⟩ | ⟨z, _⟩
      · exact z
      · exact absurd rfl z
    exact ⟨fun s us ws _ h1 h2 => match us, ws, h1, h2 with | [_], [_], _, _ => .of_eq rfl, fun r1 r2 => r1.append r2⟩
theorem in_InvalidRows (ec : ErrC K C) (no : PySem.W.findIn K (.ref C) "index" = some none) (F : FunD K "__init__" "InvalidRows.__init__" (defArgs (inClass (top 4) 0)) (defBody (inClass (top 4) 0)) (defScope (inClass (top 4) 0)) [] [] f fd) : IniOk P w K mg base C f fd "index" := by
  have sc_ : FnScope ["self", "index"] ["self", "index"] (defScope (inClass (top 4) 0)) := ⟨rfl, rfl, rfl, by decide +kernel, rfl, by decide +kernel, by decide +kernel⟩
  refine ⟨F.ok sc_ (fun vs H Q E h => ?_) (fun cdv A outer s H vs Q E hr h => ?_), F.bindsN fun _ _ _ _ _ _ us hl => match us, hl with | [_, _], _ => rfl, ?_⟩
  · obtain ⟨a, y, rfl, _⟩ := h; rfl
  · obtain ⟨a, y, rfl, ha, q⟩ := h
    exact ⟨_, PSs.nox (pss_one (ps_errSet (pv 0) (pv 1))), _, rfl, _, rfl, a, C, rfl, ec, no, ha, fun dx n1 n2 => q dx n1 n2⟩
  · obtain ⟨oc, od, dV, kV, doc, pm, an, cdv, ct, osl, rfl, _, _, dd, _⟩ := F.ex
    obtain rfl : dV = .none := by
      rcases dd with ⟨_, z⟩ | ⟨z, _⟩
      · exact z
      · exact absurd rfl z
    exact ⟨fun s us ws _ h1 h2 => match us, ws, h1, h2 with | [_], [_], _, _ => .of_eq rfl, fun r1 r2 => r1.append r2⟩
theorem in_InvalidRow (ec : ErrC K C) (no : PySem.W.findIn K (.ref C) "index" = some none) (F : FunD K "__init__" "InvalidRow.__init__" (defArgs (inClass (top 5) 0)) (defBody (inClass (top 5) 0)) (defScope (inClass (top 5) 0)) [] [] f fd) : IniOk P w K mg base C f fd "index" := by
  have sc_ : FnScope ["self", "index"] ["self", "index"] (defScope (inClass (top 5) 0)) := ⟨rfl, rfl, rfl, by decide +kernel, rfl, by decide +kernel, by decide +kernel⟩
  refine ⟨F.ok sc_ (fun vs H Q E h => ?_) (fun cdv A outer s H vs Q E hr h => ?_), F.bindsN fun _ _ _ _ _ _ us hl => match us, hl with | [_, _], _ => rfl, ?_⟩
  · obtain ⟨a, y, rfl, _⟩ := h; rfl
  · obtain ⟨a, y, rfl, ha, q⟩ := h
    exact ⟨_, PSs.nox (pss_one (ps_errSet (pv 0) (pv 1))), _, rfl, _, rfl, a, C, rfl, ec, no, ha, fun dx n1 n2 => q dx n1 n2⟩
  · obtain ⟨oc, od, dV, kV, doc, pm, an, cdv, ct, osl, rfl, _, _, dd, _⟩ := F.ex
    obtain rfl : dV = .none := by
      rcases dd with ⟨_, z⟩ | ⟨z, _⟩
      · exact z
      · exact absurd rfl z
    exact ⟨fun s us ws _ h1 h2 => match us, ws, h1, h2 with | [_], [_], _, _ => .of_eq rfl, fun r1 r2 => r1.append r2⟩
theorem in_InvalidValue (ec : ErrC K C) (no : PySem.W.findIn K (.ref C) "value" = some none) (F : FunD K "__init__" "InvalidValue.__init__" (defArgs (inClass (top 6) 0)) (defBody (inClass (top 6) 0)) (defScope (inClass (top 6) 0)) [] [] f fd) : IniOk P w K mg base C f fd "value" := by
  have sc_ : FnScope ["self", "value"] ["self", "value"] (defScope (inClass (top 6) 0)) := ⟨rfl, rfl, rfl, by decide +kernel, rfl, by decide +kernel, by decide +kernel⟩
  refine ⟨F.ok sc_ (fun vs H Q E h => ?_) (fun cdv A outer s H vs Q E hr h => ?_), F.bindsN fun _ _ _ _ _ _ us hl => match us, hl with | [_, _], _ => rfl, ?_⟩
  · obtain ⟨a, y, rfl, _⟩ := h; rfl
  · obtain ⟨a, y, rfl, ha, q⟩ := h
    exact ⟨_, PSs.nox (pss_one (ps_errSet (pv 0) (pv 1))), _, rfl, _, rfl, a, C, rfl, ec, no, ha, fun dx n1 n2 => q dx n1 n2⟩
  · obtain ⟨oc, od, dV, kV, doc, pm, an, cdv, ct, osl, rfl, _, _, dd, _⟩ := F.ex
    obtain rfl : dV = .none := by
      rcases dd with ⟨_, z⟩ | ⟨z, _⟩
      · exact z
      · exact absurd rfl z
    exact ⟨fun s us ws _ h1 h2 => match us, ws, h1, h2 with | [_], [_], _, _ => .of_eq rfl, fun r1 r2 => r1.append r2⟩
theorem in_InvalidExpression (ec : ErrC K C) (no : PySem.W.findIn K (.ref C) "path" = some none) (F : FunD K "__init__" "InvalidExpression.__init__" (defArgs (inClass (top 7) 0)) (defBody (inClass (top 7) 0)) (defScope (inClass (top 7) 0)) [] [] f fd) : IniOk P w K mg base C f fd "path" := by
  have sc_ : FnScope ["self", "path"] ["self", "path"] (defScope (inClass (top 7) 0)) := ⟨rfl, rfl, rfl, by decide +kernel, rfl, by decide +kernel, by decide +kernel⟩
  refine ⟨F.ok sc_ (fun vs H Q E h => ?_) (fun cdv A outer s H vs Q E hr h => ?_), F.bindsN fun _ _ _ _ _ _ us hl => match us, hl with | [_, _], _ => rfl, ?_⟩
  · obtain ⟨a, y, rfl, _⟩ := h; rfl
  · obtain ⟨a, y, rfl, ha, q⟩ := h
    exact ⟨_, PSs.nox (pss_one (ps_errSet (pv 0) (pv 1))), _, rfl, _, rfl, a, C, rfl, ec, no, ha, fun dx n1 n2 => q dx n1 n2⟩
  · obtain ⟨oc, od, dV, kV, doc, pm, an, cdv, ct, osl, rfl, _, _, dd, _⟩ := F.ex
    obtain rfl : dV = .none := by
      rcases dd with ⟨_, z⟩ | ⟨z, _⟩
      · exact z
      · exact absurd rfl z
    exact ⟨fun s us ws _ h1 h2 => match us, ws, h1, h2 with | [_], [_], _, _ => .of_eq rfl, fun r1 r2 => r1.append r2⟩
theorem in_InvalidPlan (ec : ErrC K C) (no : PySem.W.findIn K (.ref C) "path" = some none) (F : FunD K "__init__" "InvalidPlan.__init__" (defArgs (inClass (top 8) 0)) (defBody (inClass (top 8) 0)) (defScope (inClass (top 8) 0)) [] [] f fd) : IniOk P w K mg base C f fd "path" := by
  have sc_ : FnScope ["self", "path"] ["self", "path"] (defScope (inClass (top 8) 0)) := ⟨rfl, rfl, rfl, by decide +kernel, rfl, by decide +kernel, by decide +kernel⟩
  refine ⟨F.ok sc_ (fun vs H Q E h => ?_) (fun cdv A outer s H vs Q E hr h => ?_), F.bindsN fun _ _ _ _ _ _ us hl => match us, hl with | [_, _], _ => rfl, ?_⟩
  · obtain ⟨a, y, rfl, _⟩ := h; rfl
  · obtain ⟨a, y, rfl, ha, q⟩ := h
    exact ⟨_, PSs.nox (pss_one (ps_errSet (pv 0) (pv 1))), _, rfl, _, rfl, a, C, rfl, ec, no, ha, fun dx n1 n2 => q dx n1 n2⟩
  · obtain ⟨oc, od, dV, kV, doc, pm, an, cdv, ct, osl, rfl, _, _, dd, _⟩ := F.ex
    obtain rfl : dV = .none := by
      rcases dd with ⟨_, z⟩ | ⟨z, _⟩
      · exact z
      · exact absurd rfl z
    exact ⟨fun s us ws _ h1 h2 => match us, ws, h1, h2 with | [_], [_], _, _ => .of_eq rfl, fun r1 r2 => r1.append r2⟩
theorem in_InvalidSchemas (ec : ErrC K C) (no : PySem.W.findIn K (.ref C) "index" = some none) (F : FunD K "__init__" "InvalidSchemas.__init__" (defArgs (inClass (top 9) 0)) (defBody (inClass (top 9) 0)) (defScope (inClass (top 9) 0)) [] [] f fd) : IniOk P w K mg base C f fd "index" := by
  have sc_ : FnScope ["self", "index"] ["self", "index"] (defScope (inClass (top 9) 0)) := ⟨rfl, rfl, rfl, by decide +kernel, rfl, by decide +kernel, by decide +kernel⟩
  refine ⟨F.ok sc_ (fun vs H Q E h => ?_) (fun cdv A outer s H vs Q E hr h => ?_), F.bindsN fun _ _ _ _ _ _ us hl => match us, hl with | [_, _], _ => rfl, ?_⟩
  · obtain ⟨a, y, rfl, _⟩ := h; rfl
  · obtain ⟨a, y, rfl, ha, q⟩ := h
    exact ⟨_, PSs.nox (pss_one (ps_errSet (pv 0) (pv 1))), _, rfl, _, rfl, a, C, rfl, ec, no, ha, fun dx n1 n2 => q dx n1 n2⟩
  · obtain ⟨oc, od, dV, kV, doc, pm, an, cdv, ct, osl, rfl, _, _, dd, _⟩ := F.ex
    obtain rfl : dV = .none := by
      rcases dd with ⟨_, z⟩ | ⟨z, _⟩
      · exact z
      · exact absurd rfl z
    exact ⟨fun s us ws _ h1 h2 => match us, ws, h1, h2 with | [_], [_], _, _ => .of_eq rfl, fun r1 r2 => r1.append r2⟩
theorem in_InvalidFeed (ec : ErrC K C) (no : PySem.W.findIn K (.ref C) "name" = some none) (F : FunD K "__init__" "InvalidFeed.__init__" (defArgs (inClass (top 10) 0)) (defBody (inClass (top 10) 0)) (defScope (inClass (top 10) 0)) [] [] f fd) : IniOk P w K mg base C f fd "name" := by
  have sc_ : FnScope ["self", "name"] ["self", "name"] (defScope (inClass (top 10) 0)) := ⟨rfl, rfl, rfl, by decide +kernel, rfl, by decide +kernel, by decide +kernel⟩
  refine ⟨F.ok sc_ (fun vs H Q E h => ?_) (fun cdv A outer s H vs Q E hr h => ?_), F.bindsN fun _ _ _ _ _ _ us hl => match us, hl with | [_, _], _ => rfl, ?_⟩
  · obtain ⟨a, y, rfl, _⟩ := h; rfl
  · obtain ⟨a, y, rfl, ha, q⟩ := h
    exact ⟨_, PSs.nox (pss_one (ps_errSet (pv 0) (pv 1))), _, rfl, _, rfl, a, C, rfl, ec, no, ha, fun dx n1 n2 => q dx n1 n2⟩
  · obtain ⟨oc, od, dV, kV, doc, pm, an, cdv, ct, osl, rfl, _, _, dd, _⟩ := F.ex
    obtain rfl : dV = .none := by
      rcases dd with ⟨_, z⟩ | ⟨z, _⟩
      · exact z
      · exact absurd rfl z
    exact ⟨fun s us ws _ h1 h2 => match us, ws, h1, h2 with | [_], [_], _, _ => .of_eq rfl, fun r1 r2 => r1.append r2⟩
theorem in_InvalidNumber (ec : ErrC K C) (no : PySem.W.findIn K (.ref C) "number" = some none) (F : FunD K "__init__" "InvalidNumber.__init__" (defArgs (inClass (top 11) 0)) (defBody (inClass (top 11) 0)) (defScope (inClass (top 11) 0)) [] [] f fd) : IniOk P w K mg base C f fd "number" := by
  have sc_ : FnScope ["self", "number"] ["self", "number"] (defScope (inClass (top 11) 0)) := ⟨rfl, rfl, rfl, by decide +kernel, rfl, by decide +kernel, by decide +kernel⟩
  refine ⟨F.ok sc_ (fun vs H Q E h => ?_) (fun cdv A outer s H vs Q E hr h => ?_), F.bindsN fun _ _ _ _ _ _ us hl => match us, hl with | [_, _], _ => rfl, ?_⟩
  · obtain ⟨a, y, rfl, _⟩ := h; rfl
  · obtain ⟨a, y, rfl, ha, q⟩ := h
    exact ⟨_, PSs.nox (pss_one (ps_errSet (pv 0) (pv 1))), _, rfl, _, rfl, a, C, rfl, ec, no, ha, fun dx n1 n2 => q dx n1 n2⟩
  · obtain ⟨oc, od, dV, kV, doc, pm, an, cdv, ct, osl, rfl, _, _, dd, _⟩ := F.ex
    obtain rfl : dV = .none := by
      rcases dd with ⟨_, z⟩ | ⟨z, _⟩
      · exact z
      · exact absurd rfl z
    exact ⟨fun s us ws _ h1 h2 => match us, ws, h1, h2 with | [_], [_], _, _ => .of_eq rfl, fun r1 r2 => r1.append r2⟩
theorem in_InvalidSteps (ec : ErrC K C) (no : PySem.W.findIn K (.ref C) "index" = some none) (F : FunD K "__init__" "InvalidSteps.__init__" (defArgs (inClass (top 12) 0)) (defBody (inClass (top 12) 0)) (defScope (inClass (top 12) 0)) [] [] f fd) : IniOk P w K mg base C f fd "index" := by
  have sc_ : FnScope ["self", "index"] ["self", "index"] (defScope (inClass (top 12) 0)) := ⟨rfl, rfl, rfl, by decide +kernel, rfl, by decide +kernel, by decide +kernel⟩
  refine ⟨F.ok sc_ (fun vs H Q E h => ?_) (fun cdv A outer s H vs Q E hr h => ?_), F.bindsN fun _ _ _ _ _ _ us hl => match us, hl with | [_, _], _ => rfl, ?_⟩
  · obtain ⟨a, y, rfl, _⟩ := h; rfl
  · obtain ⟨a, y, rfl, ha, q⟩ := h
    exact ⟨_, PSs.nox (pss_one (ps_errSet (pv 0) (pv 1))), _, rfl, _, rfl, a, C, rfl, ec, no, ha, fun dx n1 n2 => q dx n1 n2⟩
  · obtain ⟨oc, od, dV, kV, doc, pm, an, cdv, ct, osl, rfl, _, _, dd, _⟩ := F.ex
    obtain rfl : dV = .none := by
      rcases dd with ⟨_, z⟩ | ⟨z, _⟩
      · exact z
      · exact absurd rfl z
    exact ⟨fun s us ws _ h1 h2 => match us, ws, h1, h2 with | [_], [_], _, _ => .of_eq rfl, fun r1 r2 => r1.append r2⟩
theorem in_InvalidPath (ec : ErrC K C) (no : PySem.W.findIn K (.ref C) "path" = some none) (F : FunD K "__init__" "InvalidPath.__init__" (defArgs (inClass (top 13) 0)) (defBody (inClass (top 13) 0)) (defScope (inClass (top 13) 0)) [] [] f fd) : IniOk P w K mg base C f fd "path" := by
  have sc_ : FnScope ["self", "path"] ["self", "path"] (defScope (inClass (top 13) 0)) := ⟨rfl, rfl, rfl, by decide +kernel, rfl, by decide +kernel, by decide +kernel⟩
  refine ⟨F.ok sc_ (fun vs H Q E h => ?_) (fun cdv A outer s H vs Q E hr h => ?_), F.bindsN fun _ _ _ _ _ _ us hl => match us, hl with | [_, _], _ => rfl, ?_⟩
  · obtain ⟨a, y, rfl, _⟩ := h; rfl
  · obtain ⟨a, y, rfl, ha, q⟩ := h
    exact ⟨_, PSs.nox (pss_one (ps_errSet (pv 0) (pv 1))), _, rfl, _, rfl, a, C, rfl, ec, no, ha, fun dx n1 n2 => q dx n1 n2⟩
  · obtain ⟨oc, od, dV, kV, doc, pm, an, cdv, ct, osl, rfl, _, _, dd, _⟩ := F.ex
    obtain rfl : dV = .none := by
      rcases dd with ⟨_, z⟩ | ⟨z, _⟩
      · exact z
      · exact absurd rfl z
    exact ⟨fun s us ws _ h1 h2 => match us, ws, h1, h2 with | [_], [_], _, _ => .of_eq rfl, fun r1 r2 => r1.append r2⟩
theorem in_InvalidText (ec : ErrC K C) (no : PySem.W.findIn K (.ref C) "text" = some none) (F : FunD K "__init__" "InvalidText.__init__" (defArgs (inClass (top 14) 0)) (defBody (inClass (top 14) 0)) (defScope (inClass (top 14) 0)) [] [] f fd) : IniOk P w K mg base C f fd "text" := by
  have sc_ : FnScope ["self", "text"] ["self", "text"] (defScope (inClass (top 14) 0)) := ⟨rfl, rfl, rfl, by decide +kernel, rfl, by decide +kernel, by decide +kernel⟩
  refine ⟨F.ok sc_ (fun vs H Q E h => ?_) (fun cdv A outer s H vs Q E hr h => ?_), F.bindsN fun _ _ _ _ _ _ us hl => match us, hl with | [_, _], _ => rfl, ?_⟩
  · obtain ⟨a, y, rfl, _⟩ := h; rfl
  · obtain ⟨a, y, rfl, ha, q⟩ := h
    exact ⟨_, PSs.nox (pss_one (ps_errSet (pv 0) (pv 1))), _, rfl, _, rfl, a, C, rfl, ec, no, ha, fun dx n1 n2 => q dx n1 n2⟩
  · obtain ⟨oc, od, dV, kV, doc, pm, an, cdv, ct, osl, rfl, _, _, dd, _⟩ := F.ex
    obtain rfl : dV = .none := by
      rcases dd with ⟨_, z⟩ | ⟨z, _⟩
      · exact z
      · exact absurd rfl z
    exact ⟨fun s us ws _ h1 h2 => match us, ws, h1, h2 with | [_], [_], _, _ => .of_eq rfl, fun r1 r2 => r1.append r2⟩
theorem in_InvalidAction (ec : ErrC K C) (no : PySem.W.findIn K (.ref C) "index" = some none) (F : FunD K "__init__" "InvalidAction.__init__" (defArgs (inClass (top 15) 0)) (defBody (inClass (top 15) 0)) (defScope (inClass (top 15) 0)) [] [] f fd) : IniOk P w K mg base C f fd "index" := by
  have sc_ : FnScope ["self", "index"] ["self", "index"] (defScope (inClass (top 15) 0)) := ⟨rfl, rfl, rfl, by decide +kernel, rfl, by decide +kernel, by decide +kernel⟩
  refine ⟨F.ok sc_ (fun vs H Q E h => ?_) (fun cdv A outer s H vs Q E hr h => ?_), F.bindsN fun _ _ _ _ _ _ us hl => match us, hl with | [_, _], _ => rfl, ?_⟩
  · obtain ⟨a, y, rfl, _⟩ := h; rfl
  · obtain ⟨a, y, rfl, ha, q⟩ := h
    exact ⟨_, PSs.nox (pss_one (ps_errSet (pv 0) (pv 1))), _, rfl, _, rfl, a, C, rfl, ec, no, ha, fun dx n1 n2 => q dx n1 n2⟩
  · obtain ⟨oc, od, dV, kV, doc, pm, an, cdv, ct, osl, rfl, _, _, dd, _⟩ := F.ex
    obtain rfl : dV = .none := by
      rcases dd with ⟨_, z⟩ | ⟨z, _⟩
      · exact z
      · exact absurd rfl z
    exact ⟨fun s us ws _ h1 h2 => match us, ws, h1, h2 with | [_], [_], _, _ => .of_eq rfl, fun r1 r2 => r1.append r2⟩
theorem in_InvalidLine (ec : ErrC K C) (no : PySem.W.findIn K (.ref C) "line" = some none) (F : FunD K "__init__" "InvalidLine.__init__" (defArgs (inClass (top 16) 0)) (defBody (inClass (top 16) 0)) (defScope (inClass (top 16) 0)) [] [] f fd) : IniOk P w K mg base C f fd "line" := by
  have sc_ : FnScope ["self", "line"] ["self", "line"] (defScope (inClass (top 16) 0)) := ⟨rfl, rfl, rfl, by decide +kernel, rfl, by decide +kernel, by decide +kernel⟩
  refine ⟨F.ok sc_ (fun vs H Q E h => ?_) (fun cdv A outer s H vs Q E hr h => ?_), F.bindsN fun _ _ _ _ _ _ us hl => match us, hl with | [_, _], _ => rfl, ?_⟩
  · obtain ⟨a, y, rfl, _⟩ := h; rfl
  · obtain ⟨a, y, rfl, ha, q⟩ := h
    exact ⟨_, PSs.nox (pss_one (ps_errSet (pv 0) (pv 1))), _, rfl, _, rfl, a, C, rfl, ec, no, ha, fun dx n1 n2 => q dx n1 n2⟩
  · obtain ⟨oc, od, dV, kV, doc, pm, an, cdv, ct, osl, rfl, _, _, dd, _⟩ := F.ex
    obtain rfl : dV = .none := by
      rcases dd with ⟨_, z⟩ | ⟨z, _⟩
      · exact z
      · exact absurd rfl z
    exact ⟨fun s us ws _ h1 h2 => match us, ws, h1, h2 with | [_], [_], _, _ => .of_eq rfl, fun r1 r2 => r1.append r2⟩
theorem in_NotAFrame (ec : ErrC K C) (no : PySem.W.findIn K (.ref C) "value" = some none) (F : FunD K "__init__" "NotAFrame.__init__" (defArgs (inClass (top 17) 0)) (defBody (inClass (top 17) 0)) (defScope (inClass (top 17) 0)) [] [] f fd) : IniOk P w K mg base C f fd "value" := by
  have sc_ : FnScope ["self", "value"] ["self", "value"] (defScope (inClass (top 17) 0)) := ⟨rfl, rfl, rfl, by decide +kernel, rfl, by decide +kernel, by decide +kernel⟩
  refine ⟨F.ok sc_ (fun vs H Q E h => ?_) (fun cdv A outer s H vs Q E hr h => ?_), F.bindsN fun _ _ _ _ _ _ us hl => match us, hl with | [_, _], _ => rfl, ?_⟩
  · obtain ⟨a, y, rfl, _⟩ := h; rfl
  · obtain ⟨a, y, rfl, ha, q⟩ := h
    exact ⟨_, PSs.nox (pss_one (ps_errSet (pv 0) (pv 1))), _, rfl, _, rfl, a, C, rfl, ec, no, ha, fun dx n1 n2 => q dx n1 n2⟩
  · obtain ⟨oc, od, dV, kV, doc, pm, an, cdv, ct, osl, rfl, _, _, dd, _⟩ := F.ex
    obtain rfl : dV = .none := by
      rcases dd with ⟨_, z⟩ | ⟨z, _⟩
      · exact z
      · exact absurd rfl z
    exact ⟨fun s us ws _ h1 h2 => match us, ws, h1, h2 with | [_], [_], _, _ => .of_eq rfl, fun r1 r2 => r1.append r2⟩
theorem in_NotAHouse (ec : ErrC K C) (no : PySem.W.findIn K (.ref C) "value" = some none) (F : FunD K "__init__" "NotAHouse.__init__" (defArgs (inClass (top 18) 0)) (defBody (inClass (top 18) 0)) (defScope (inClass (top 18) 0)) [] [] f fd) : IniOk P w K mg base C f fd "value" := by
  have sc_ : FnScope ["self", "value"] ["self", "value"] (defScope (inClass (top 18) 0)) := ⟨rfl, rfl, rfl, by decide +kernel, rfl, by decide +kernel, by decide +kernel⟩
  refine ⟨F.ok sc_ (fun vs H Q E h => ?_) (fun cdv A outer s H vs Q E hr h => ?_), F.bindsN fun _ _ _ _ _ _ us hl => match us, hl with | [_, _], _ => rfl, ?_⟩
  · obtain ⟨a, y, rfl, _⟩ := h; rfl
  · obtain ⟨a, y, rfl, ha, q⟩ := h
    exact ⟨_, PSs.nox (pss_one (ps_errSet (pv 0) (pv 1))), _, rfl, _, rfl, a, C, rfl, ec, no, ha, fun dx n1 n2 => q dx n1 n2⟩
  · obtain ⟨oc, od, dV, kV, doc, pm, an, cdv, ct, osl, rfl, _, _, dd, _⟩ := F.ex
    obtain rfl : dV = .none := by
      rcases dd with ⟨_, z⟩ | ⟨z, _⟩
      · exact z
      · exact absurd rfl z
    exact ⟨fun s us ws _ h1 h2 => match us, ws, h1, h2 with | [_], [_], _, _ => .of_eq rfl, fun r1 r2 => r1.append r2⟩
theorem in_NotAnExpr (ec : ErrC K C) (no : PySem.W.findIn K (.ref C) "value" = some none) (F : FunD K "__init__" "NotAnExpr.__init__" (defArgs (inClass (top 19) 0)) (defBody (inClass (top 19) 0)) (defScope (inClass (top 19) 0)) [] [] f fd) : IniOk P w K mg base C f fd "value" := by
  have sc_ : FnScope ["self", "value"] ["self", "value"] (defScope (inClass (top 19) 0)) := ⟨rfl, rfl, rfl, by decide +kernel, rfl, by decide +kernel, by decide +kernel⟩
  refine ⟨F.ok sc_ (fun vs H Q E h => ?_) (fun cdv A outer s H vs Q E hr h => ?_), F.bindsN fun _ _ _ _ _ _ us hl => match us, hl with | [_, _], _ => rfl, ?_⟩
  · obtain ⟨a, y, rfl, _⟩ := h; rfl
  · obtain ⟨a, y, rfl, ha, q⟩ := h
    exact ⟨_, PSs.nox (pss_one (ps_errSet (pv 0) (pv 1))), _, rfl, _, rfl, a, C, rfl, ec, no, ha, fun dx n1 n2 => q dx n1 n2⟩
  · obtain ⟨oc, od, dV, kV, doc, pm, an, cdv, ct, osl, rfl, _, _, dd, _⟩ := F.ex
    obtain rfl : dV = .none := by
      rcases dd with ⟨_, z⟩ | ⟨z, _⟩
      · exact z
      · exact absurd rfl z
    exact ⟨fun s us ws _ h1 h2 => match us, ws, h1, h2 with | [_], [_], _, _ => .of_eq rfl, fun r1 r2 => r1.append r2⟩
theorem in_NotAPipe (ec : ErrC K C) (no : PySem.W.findIn K (.ref C) "value" = some none) (F : FunD K "__init__" "NotAPipe.__init__" (defArgs (inClass (top 20) 0)) (defBody (inClass (top 20) 0)) (defScope (inClass (top 20) 0)) [] [] f fd) : IniOk P w K mg base C f fd "value" := by
  have sc_ : FnScope ["self", "value"] ["self", "value"] (defScope (inClass (top 20) 0)) := ⟨rfl, rfl, rfl, by decide +kernel, rfl, by decide +kernel, by decide +kernel⟩
  refine ⟨F.ok sc_ (fun vs H Q E h => ?_) (fun cdv A outer s H vs Q E hr h => ?_), F.bindsN fun _ _ _ _ _ _ us hl => match us, hl with | [_, _], _ => rfl, ?_⟩
  · obtain ⟨a, y, rfl, _⟩ := h; rfl
  · obtain ⟨a, y, rfl, ha, q⟩ := h
    exact ⟨_, PSs.nox (pss_one (ps_errSet (pv 0) (pv 1))), _, rfl, _, rfl, a, C, rfl, ec, no, ha, fun dx n1 n2 => q dx n1 n2⟩
  · obtain ⟨oc, od, dV, kV, doc, pm, an, cdv, ct, osl, rfl, _, _, dd, _⟩ := F.ex
    obtain rfl : dV = .none := by
      rcases dd with ⟨_, z⟩ | ⟨z, _⟩
      · exact z
      · exact absurd rfl z
    exact ⟨fun s us ws _ h1 h2 => match us, ws, h1, h2 with | [_], [_], _, _ => .of_eq rfl, fun r1 r2 => r1.append r2⟩
theorem in_NotASheet (ec : ErrC K C) (no : PySem.W.findIn K (.ref C) "value" = some none) (F : FunD K "__init__" "NotASheet.__init__" (defArgs (inClass (top 21) 0)) (defBody (inClass (top 21) 0)) (defScope (inClass (top 21) 0)) [] [] f fd) : IniOk P w K mg base C f fd "value" := by
  have sc_ : FnScope ["self", "value"] ["self", "value"] (defScope (inClass (top 21) 0)) := ⟨rfl, rfl, rfl, by decide +kernel, rfl, by decide +kernel, by decide +kernel⟩
  refine ⟨F.ok sc_ (fun vs H Q E h => ?_) (fun cdv A outer s H vs Q E hr h => ?_), F.bindsN fun _ _ _ _ _ _ us hl => match us, hl with | [_, _], _ => rfl, ?_⟩
  · obtain ⟨a, y, rfl, _⟩ := h; rfl
  · obtain ⟨a, y, rfl, ha, q⟩ := h
    exact ⟨_, PSs.nox (pss_one (ps_errSet (pv 0) (pv 1))), _, rfl, _, rfl, a, C, rfl, ec, no, ha, fun dx n1 n2 => q dx n1 n2⟩
  · obtain ⟨oc, od, dV, kV, doc, pm, an, cdv, ct, osl, rfl, _, _, dd, _⟩ := F.ex
    obtain rfl : dV = .none := by
      rcases dd with ⟨_, z⟩ | ⟨z, _⟩
      · exact z
      · exact absurd rfl z
    exact ⟨fun s us ws _ h1 h2 => match us, ws, h1, h2 with | [_], [_], _, _ => .of_eq rfl, fun r1 r2 => r1.append r2⟩
theorem in_UnknownSource (ec : ErrC K C) (no : PySem.W.findIn K (.ref C) "name" = some none) (F : FunD K "__init__" "UnknownSource.__init__" (defArgs (inClass (top 23) 0)) (defBody (inClass (top 23) 0)) (defScope (inClass (top 23) 0)) [] [] f fd) : IniOk P w K mg base C f fd "name" := by
  have sc_ : FnScope ["self", "name"] ["self", "name"] (defScope (inClass (top 23) 0)) := ⟨rfl, rfl, rfl, by decide +kernel, rfl, by decide +kernel, by decide +kernel⟩
  refine ⟨F.ok sc_ (fun vs H Q E h => ?_) (fun cdv A outer s H vs Q E hr h => ?_), F.bindsN fun _ _ _ _ _ _ us hl => match us, hl with | [_, _], _ => rfl, ?_⟩
  · obtain ⟨a, y, rfl, _⟩ := h; rfl
  · obtain ⟨a, y, rfl, ha, q⟩ := h
    exact ⟨_, PSs.nox (pss_one (ps_errSet (pv 0) (pv 1))), _, rfl, _, rfl, a, C, rfl, ec, no, ha, fun dx n1 n2 => q dx n1 n2⟩
  · obtain ⟨oc, od, dV, kV, doc, pm, an, cdv, ct, osl, rfl, _, _, dd, _⟩ := F.ex
    obtain rfl : dV = .none := by
      rcases dd with ⟨_, z⟩ | ⟨z, _⟩
      · exact z
      · exact absurd rfl z
    exact ⟨fun s us ws _ h1 h2 => match us, ws, h1, h2 with | [_], [_], _, _ => .of_eq rfl, fun r1 r2 => r1.append r2⟩
theorem in_UnknownColumn (ec : ErrC K C) (no : PySem.W.findIn K (.ref C) "name" = some none) (F : FunD K "__init__" "UnknownColumn.__init__" (defArgs (inClass (top 24) 0)) (defBody (inClass (top 24) 0)) (defScope (inClass (top 24) 0)) [] [] f fd) : IniOk P w K mg base C f fd "name" := by
  have sc_ : FnScope ["self", "name"] ["self", "name"] (defScope (inClass (top 24) 0)) := ⟨rfl, rfl, rfl, by decide +kernel, rfl, by decide +kernel, by decide +kernel⟩
  refine ⟨F.ok sc_ (fun vs H Q E h => ?_) (fun cdv A outer s H vs Q E hr h => ?_), F.bindsN fun _ _ _ _ _ _ us hl => match us, hl with | [_, _], _ => rfl, ?_⟩
  · obtain ⟨a, y, rfl, _⟩ := h; rfl
  · obtain ⟨a, y, rfl, ha, q⟩ := h
    exact ⟨_, PSs.nox (pss_one (ps_errSet (pv 0) (pv 1))), _, rfl, _, rfl, a, C, rfl, ec, no, ha, fun dx n1 n2 => q dx n1 n2⟩
  · obtain ⟨oc, od, dV, kV, doc, pm, an, cdv, ct, osl, rfl, _, _, dd, _⟩ := F.ex
    obtain rfl : dV = .none := by
      rcases dd with ⟨_, z⟩ | ⟨z, _⟩
      · exact z
      · exact absurd rfl z
    exact ⟨fun s us ws _ h1 h2 => match us, ws, h1, h2 with | [_], [_], _, _ => .of_eq rfl, fun r1 r2 => r1.append r2⟩
theorem in_DoubleColumn (ec : ErrC K C) (no : PySem.W.findIn K (.ref C) "name" = some none) (F : FunD K "__init__" "DoubleColumn.__init__" (defArgs (inClass (top 25) 0)) (defBody (inClass (top 25) 0)) (defScope (inClass (top 25) 0)) [] [] f fd) : IniOk P w K mg base C f fd "name" := by
  have sc_ : FnScope ["self", "name"] ["self", "name"] (defScope (inClass (top 25) 0)) := ⟨rfl, rfl, rfl, by decide +kernel, rfl, by decide +kernel, by decide +kernel⟩
  refine ⟨F.ok sc_ (fun vs H Q E h => ?_) (fun cdv A outer s H vs Q E hr h => ?_), F.bindsN fun _ _ _ _ _ _ us hl => match us, hl with | [_, _], _ => rfl, ?_⟩
  · obtain ⟨a, y, rfl, _⟩ := h; rfl
  · obtain ⟨a, y, rfl, ha, q⟩ := h
    exact ⟨_, PSs.nox (pss_one (ps_errSet (pv 0) (pv 1))), _, rfl, _, rfl, a, C, rfl, ec, no, ha, fun dx n1 n2 => q dx n1 n2⟩
  · obtain ⟨oc, od, dV, kV, doc, pm, an, cdv, ct, osl, rfl, _, _, dd, _⟩ := F.ex
    obtain rfl : dV = .none := by
      rcases dd with ⟨_, z⟩ | ⟨z, _⟩
      · exact z
      · exact absurd rfl z
    exact ⟨fun s us ws _ h1 h2 => match us, ws, h1, h2 with | [_], [_], _, _ => .of_eq rfl, fun r1 r2 => r1.append r2⟩
theorem in_WrongKind (ec : ErrC K C) (no : PySem.W.findIn K (.ref C) "word" = some none) (F : FunD K "__init__" "WrongKind.__init__" (defArgs (inClass (top 26) 0)) (defBody (inClass (top 26) 0)) (defScope (inClass (top 26) 0)) [] [] f fd) : IniOk P w K mg base C f fd "word" := by
  have sc_ : FnScope ["self", "word"] ["self", "word"] (defScope (inClass (top 26) 0)) := ⟨rfl, rfl, rfl, by decide +kernel, rfl, by decide +kernel, by decide +kernel⟩
  refine ⟨F.ok sc_ (fun vs H Q E h => ?_) (fun cdv A outer s H vs Q E hr h => ?_), F.bindsN fun _ _ _ _ _ _ us hl => match us, hl with | [_, _], _ => rfl, ?_⟩
  · obtain ⟨a, y, rfl, _⟩ := h; rfl
  · obtain ⟨a, y, rfl, ha, q⟩ := h
    exact ⟨_, PSs.nox (pss_one (ps_errSet (pv 0) (pv 1))), _, rfl, _, rfl, a, C, rfl, ec, no, ha, fun dx n1 n2 => q dx n1 n2⟩
  · obtain ⟨oc, od, dV, kV, doc, pm, an, cdv, ct, osl, rfl, _, _, dd, _⟩ := F.ex
    obtain rfl : dV = .none := by
      rcases dd with ⟨_, z⟩ | ⟨z, _⟩
      · exact z
      · exact absurd rfl z
    exact ⟨fun s us ws _ h1 h2 => match us, ws, h1, h2 with | [_], [_], _, _ => .of_eq rfl, fun r1 r2 => r1.append r2⟩
theorem in_DoesNotApply (ec : ErrC K C) (no : PySem.W.findIn K (.ref C) "index" = some none) (F : FunD K "__init__" "DoesNotApply.__init__" (defArgs (inClass (top 28) 0)) (defBody (inClass (top 28) 0)) (defScope (inClass (top 28) 0)) [] [] f fd) : IniOk P w K mg base C f fd "index" := by
  have sc_ : FnScope ["self", "index"] ["self", "index"] (defScope (inClass (top 28) 0)) := ⟨rfl, rfl, rfl, by decide +kernel, rfl, by decide +kernel, by decide +kernel⟩
  refine ⟨F.ok sc_ (fun vs H Q E h => ?_) (fun cdv A outer s H vs Q E hr h => ?_), F.bindsN fun _ _ _ _ _ _ us hl => match us, hl with | [_, _], _ => rfl, ?_⟩
  · obtain ⟨a, y, rfl, _⟩ := h; rfl
  · obtain ⟨a, y, rfl, ha, q⟩ := h
    exact ⟨_, PSs.nox (pss_one (ps_errSet (pv 0) (pv 1))), _, rfl, _, rfl, a, C, rfl, ec, no, ha, fun dx n1 n2 => q dx n1 n2⟩
  · obtain ⟨oc, od, dV, kV, doc, pm, an, cdv, ct, osl, rfl, _, _, dd, _⟩ := F.ex
    obtain rfl : dV = .none := by
      rcases dd with ⟨_, z⟩ | ⟨z, _⟩
      · exact z
      · exact absurd rfl z
    exact ⟨fun s us ws _ h1 h2 => match us, ws, h1, h2 with | [_], [_], _, _ => .of_eq rfl, fun r1 r2 => r1.append r2⟩
theorem in_TooMany (ec : ErrC K C) (no : PySem.W.findIn K (.ref C) "limit" = some none) (F : FunD K "__init__" "TooMany.__init__" (defArgs (inClass (top 35) 0)) (defBody (inClass (top 35) 0)) (defScope (inClass (top 35) 0)) [] [] f fd) : IniOk P w K mg base C f fd "limit" := by
  have sc_ : FnScope ["self", "limit"] ["self", "limit"] (defScope (inClass (top 35) 0)) := ⟨rfl, rfl, rfl, by decide +kernel, rfl, by decide +kernel, by decide +kernel⟩
  refine ⟨F.ok sc_ (fun vs H Q E h => ?_) (fun cdv A outer s H vs Q E hr h => ?_), F.bindsN fun _ _ _ _ _ _ us hl => match us, hl with | [_, _], _ => rfl, ?_⟩
  · obtain ⟨a, y, rfl, _⟩ := h; rfl
  · obtain ⟨a, y, rfl, ha, q⟩ := h
    exact ⟨_, PSs.nox (pss_one (ps_errSet (pv 0) (pv 1))), _, rfl, _, rfl, a, C, rfl, ec, no, ha, fun dx n1 n2 => q dx n1 n2⟩
  · obtain ⟨oc, od, dV, kV, doc, pm, an, cdv, ct, osl, rfl, _, _, dd, _⟩ := F.ex
    obtain rfl : dV = .none := by
      rcases dd with ⟨_, z⟩ | ⟨z, _⟩
      · exact z
      · exact absurd rfl z
    exact ⟨fun s us ws _ h1 h2 => match us, ws, h1, h2 with | [_], [_], _, _ => .of_eq rfl, fun r1 r2 => r1.append r2⟩
end
end Z
set_option Elab.async false
set_option linter.all false
set_option autoImplicit false
set_option maxRecDepth 100000
set_option maxHeartbeats 4000000
/-! the head's facts: defs at any address that a path of one's own tells, and further facts as one Bool -/
namespace ZH
open PySem PySem.Spec PyProof.Rows L2
structure DefA where
  at_ : PySem.W.Frag → Addr
  name : Str
  qual : Str
  params : Arguments
  body : List Stmt
  scope : Scope
  dfl : List He.Dv := []
def fnA (K : PySem.W.Frag) (a : Addr) : He.FnW := match K.lookup a with
  | some o => (match o.data with
    | .func fd => some (fd.name, fd.qualname, fd.params, fd.body, fd.scope, fd.globals, fd.closure, fd.builtins)
    | _ => none)
  | none => none
def DefA.val (d : DefA) : He.FnW := some (d.name, d.qual, d.params, .stmts d.body, d.scope, mainGlobals, [], builtinsNs)
def DefA.dvs (K : PySem.W.Frag) (d : DefA) : List V := d.dfl.map (He.Dv.v K)
def DefA.ok (K : PySem.W.Frag) (d : DefA) : Bool := PySem.W.keepIn K (.ref (d.at_ K)) && (match K.lookup (d.at_ K) with
  | some o => (match o.data with
    | .func fd => PySem.W.codeIn K fd.code d.qual && He.dflB K fd.defaults (d.dvs K)
    | _ => false)
  | none => false)
theorem DefA.funD {K : PySem.W.Frag} {d : DefA} (e : fnA K (d.at_ K) = d.val) (c : d.ok K = true) : ∃ fd, FunD K d.name d.qual d.params d.body d.scope (d.dvs K) [] (d.at_ K) fd := by
  unfold DefA.ok at c
  rw [Bool.and_eq_true] at c
  obtain ⟨kp, c2⟩ := c
  unfold fnA at e
  cases q : K.lookup (d.at_ K) with
  | none => rw [q] at c2; cases c2
  | some o =>
    rw [q] at c2 e
    obtain ⟨oc, od, dt, osl⟩ := o
    simp only at c2 e
    cases dt with
    | func fd =>
      simp only at c2 e
      rw [Bool.and_eq_true] at c2
      obtain ⟨n1, n2, n3, n4, n5, n6, n7, n8, n9, n10, n11, n12, n13, n14, n15⟩ := fd
      simp only [DefA.val, Option.some.injEq, Prod.mk.injEq] at e
      obtain ⟨a1, a2, a3, a4, a5, a6, a7, a8⟩ := e
      subst a1 a2 a3 a4 a5 a6 a7 a8
      exact ⟨_, ⟨oc, od, n8, n9, n10, n11, n12, n13, n14, osl, rfl, q, c2.1, He.dflB_ok c2.2, .inl rfl⟩, kp⟩
    | _ => simp only at c2; cases c2
def obsA (fa : List He.Fa) (ex : PySem.W.Frag → Bool) (fn : List DefA) (K : PySem.W.Frag) : He.AlD := ((fa.all fun f => f.ok K) && (fn.all (fun d => d.ok K) && ex K), fn.map fun d => fnA K (d.at_ K))
def valA (fn : List DefA) : He.AlD := (true, fn.map DefA.val)
def Says (fa : List He.Fa) (ex : PySem.W.Frag → Bool) (fn : List DefA) (K : PySem.W.Frag) : Prop := obsA fa ex fn K = valA fn
def obsG (n : Nat) (fa : List He.Fa) (ex : PySem.W.Frag → Bool) (fn : List DefA) (g : Addr → Option Obj) : He.AlD := obsA fa ex fn (He.frG g (He.asD g n))
def hook (n : Nat) (fa : List He.Fa) (ex : PySem.W.Frag → Bool) (fn : List DefA) : PySem.W.Hook where
  α := He.AlD
  obs := fun s => obsG n fa ex fn s.heap.get?
  val := fun _ => valA fn
  says := fun _ h => ∃ K : PySem.W.Frag, K.In h ∧ Says fa ex fn K
  of := fun _ _ e => ⟨_, He.frG_in, e⟩
  keeps := fun _ _ _ ⟨K, k1, k2⟩ k => ⟨K, PySem.W.Frag.In.keeps k1 k, k2⟩
theorem obs_eq {n : Nat} {fa : List He.Fa} {ex : PySem.W.Frag → Bool} {fn : List DefA} {g : Addr → Option Obj} {s : Shared} (h : ∀ a, g a = s.heap.get? a) : obsG n fa ex fn g = (hook n fa ex fn).obs s := by
  rw [show g = s.heap.get? from funext h]; rfl
section
variable {fa : List He.Fa} {ex : PySem.W.Frag → Bool} {fn : List DefA} {K : PySem.W.Frag}
theorem Says.fact (c : Says fa ex fn K) (i : Nat) {f : He.Fa} (h : fa[i]? = some f := by rfl) : f.ok K = true := by
  have q := congrArg (fun z : He.AlD => z.1) c
  have q1 : ((fa.all fun f => f.ok K) && (fn.all (fun d => d.ok K) && ex K)) = true := q
  rw [Bool.and_eq_true] at q1
  exact List.all_eq_true.mp q1.1 f (List.mem_of_getElem? h)
theorem Says.more (c : Says fa ex fn K) : ex K = true := by
  have q := congrArg (fun z : He.AlD => z.1) c
  have q1 : ((fa.all fun f => f.ok K) && (fn.all (fun d => d.ok K) && ex K)) = true := q
  rw [Bool.and_eq_true, Bool.and_eq_true] at q1
  exact q1.2.2
theorem Says.def_ (c : Says fa ex fn K) (i : Nat) {d : DefA} (h : fn[i]? = some d := by rfl) : ∃ fd, FunD K d.name d.qual d.params d.body d.scope (d.dvs K) [] (d.at_ K) fd := by
  have q := congrArg (fun z : He.AlD => z.1) c
  have q1 : ((fa.all fun f => f.ok K) && (fn.all (fun d => d.ok K) && ex K)) = true := q
  rw [Bool.and_eq_true, Bool.and_eq_true] at q1
  have q2 : (fn.map fun d => fnA K (d.at_ K)) = fn.map DefA.val := congrArg (fun z : He.AlD => z.2) c
  have q3 : (fn.map fun d => fnA K (d.at_ K))[i]? = (fn.map DefA.val)[i]? := by rw [q2]
  rw [List.getElem?_map, List.getElem?_map, h] at q3
  exact DefA.funD (Option.some.inj q3) (List.all_eq_true.mp q1.2.1 d (List.mem_of_getElem? h))
end
end ZH
namespace ZH
open PySem PySem.Spec PyProof.Rows L2
/-- the getter of a property of a class -/
def getA (C f : Str) (K : PySem.W.Frag) : Addr := match PySem.W.recIn K (He.ma K (He.ga K C) f) "property" with
  | some (.ref g :: _) => g
  | _ => 0
def propB (C f : Str) (K : PySem.W.Frag) : Bool :=
  He.eqO (PySem.W.findIn K (.ref (He.ga K C)) f) (some (some (.ref (He.ma K (He.ga K C) f)))) && (He.eqO (PySem.W.specialIn K (.ref (He.ma K (He.ga K C) f)) "__get__") (some (some (.builtin "property.__get__"))) &&
  (decide (PySem.W.takesIn K (.ref (He.ma K (He.ga K C) f)) = some true) && (match PySem.W.recIn K (He.ma K (He.ga K C) f) "property" with
    | some (.ref _ :: _) => true
    | _ => false)))
theorem prop_ok {C f : Str} {K : PySem.W.Frag} (h : propB C f K = true) : PropOf K (He.ga K C) f (He.ma K (He.ga K C) f) (getA C f K) := by
  unfold propB at h
  rw [Bool.and_eq_true, Bool.and_eq_true, Bool.and_eq_true] at h
  obtain ⟨h1, h2, h3, h4⟩ := h
  refine ⟨He.eqO_ok h1, He.eqO_ok h2, of_decide_eq_true h3, ?_⟩
  unfold getA
  split at h4
  · rename_i g r e
    rw [e]; exact ⟨r, rfl⟩
  · cases h4
end ZH
set_option Elab.async false
set_option linter.all false
set_option autoImplicit false
set_option maxRecDepth 100000
set_option maxHeartbeats 4000000
/-! the error classes as the head tells them -/
namespace Z
open PySem PySem.Spec PyProof.Rows L2
def errN (i : Nat) : Str := ((errs[i]?).map (·.1)).getD ""
def cl (K : PySem.W.Frag) (i : Nat) : Addr := He.ga K (errN i)
def ba (K : PySem.W.Frag) (j : Nat) : Addr := He.ga K (famN.getD j "")
def newN (j : Nat) : String := (["ValueError.__new__", "LookupError.__new__", "ArithmeticError.__new__"] : List String).getD j ""
def baseN (j : Nat) : String := famB.getD j ""
def posN (i : Nat) : Nat := if i < 20 then i + 1 else if i < 31 then i + 2 else i + 3
def posB (j : Nat) : Nat := if j = 0 then 0 else if j = 1 then 21 else 33
def seqN (k : Nat) : Str := if k = 0 then "FrameError" else if k < 21 then errN (k - 1) else if k = 21 then "FindError" else if k < 33 then errN (k - 2) else if k = 33 then "LimitError" else errN 31
def ordB (K : PySem.W.Frag) : Bool := (List.range 34).all fun k => decide (He.ga K (seqN k) < He.ga K (seqN (k + 1)))
def oneB (K : PySem.W.Frag) (i : Nat) : Bool := PySem.W.excInitIn K (cl K i) (mroX (baseN (famE i))) (newN (famE i)) && (PySem.W.excOver K (cl K i) (mroX (baseN (famE i))) && (He.eqO (PySem.W.findIn K (.ref (cl K i)) "__setattr__") (some (some (.builtin "object.__setattr__"))) && (PySem.W.keepIn K (.ref (cl K i)) &&
  (He.eqO (PySem.W.findIn K (.ref (cl K i)) "__getattribute__") (some (some (.builtin "BaseException.__getattribute__"))) && (He.eqO (PySem.W.findIn K (.ref (cl K i)) "__getattr__") (some none) && (decide (PySem.W.subIn K (.ref (cl K i)) (.type "BaseException") = some true) &&
  (PySem.W.hasDictIn K (cl K i) && (He.eqO (PySem.W.findIn K (.ref (cl K i)) "__class__") (some (some (.builtin "object.__class__"))) && (decide (PySem.W.mroIn K (cl K i) (.type "object") = some true) && ((match PySem.W.clsIn K (cl K i) with
    | some cd => decide (cd.mro = .ref (cl K i) :: .ref (ba K (famE i)) :: mroX (baseN (famE i)))
    | none => false) && decide (PySem.W.typeIn K (.ref (cl K i)) = some (.type "type"))))))))))))
def twoB (K : PySem.W.Frag) : Bool := He.eqO (PySem.W.specialIn K (.builtin "object.__class__") "__get__") (some (some (.builtin "getset_descriptor.__get__"))) && (decide (PySem.W.takesIn K (.builtin "object.__class__") = some true) &&
  (List.range 3).all fun j => (PySem.W.clsIn K (ba K j)).isSome && decide (PySem.W.typeIn K (.ref (ba K j)) = some (.type "type")))
def fldB (K : PySem.W.Frag) (i : Nat) : Bool := match errs[i]? with
  | some (_, some f) => He.eqO (PySem.W.findIn K (.ref (cl K i)) f) (some none) && (He.eqO (PySem.W.findIn K (.ref (cl K i)) "__init__") (some (some (.ref (He.ma K (cl K i) "__init__")))) && decide (PySem.W.typeIn K (.ref (He.ma K (cl K i) "__init__")) = some (.type "function")))
  | some (_, none) => PySem.W.excIn K (cl K i) (mroX (baseN (famE i))) (newN (famE i))
  | none => false
def errAllB (K : PySem.W.Frag) : Bool := ordB K && (twoB K && (List.range 32).all fun i => oneB K i && fldB K i)
section
variable {K : PySem.W.Frag}
theorem seq_lt (h : ordB K = true) : ∀ a b, a < b → b < 35 → He.ga K (seqN a) < He.ga K (seqN b) := by
  intro a b hab hb
  induction b with
  | zero => omega
  | succ b ih =>
    have s : He.ga K (seqN b) < He.ga K (seqN (b + 1)) := of_decide_eq_true (List.all_eq_true.mp h b (List.mem_range.mpr (by omega)))
    rcases Nat.lt_or_ge a b with z | z
    · exact Nat.lt_trans (ih z (by omega)) s
    · have : a = b := by omega
      subst this; exact s
theorem seq_ne (h : ordB K = true) {a b : Nat} (ha : a < 35) (hb : b < 35) (ne : a ≠ b) : He.ga K (seqN a) ≠ He.ga K (seqN b) := by
  rcases Nat.lt_or_ge a b with z | z
  · exact Nat.ne_of_lt (seq_lt h a b z hb)
  · exact Nat.ne_of_gt (seq_lt h b a (by omega) ha)
theorem seq_cl : ∀ i < 32, seqN (posN i) = errN i ∧ posN i < 35 := by decide
theorem seq_ba : ∀ j < 3, seqN (posB j) = famN.getD j "" ∧ posB j < 35 := by decide
theorem pos_ne : ∀ i < 32, ∀ j < 32, i ≠ j → posN i ≠ posN j := by decide
theorem pos_nb : ∀ i < 32, ∀ j < 3, posN i ≠ posB j := by decide
theorem pos_bb : ∀ i < 3, ∀ j < 3, i ≠ j → posB i ≠ posB j := by decide
theorem cl_ne (h : ordB K = true) {i j : Nat} (hi : i < 32) (hj : j < 32) (ne : i ≠ j) : cl K i ≠ cl K j := by
  have a := seq_cl i hi
  have b := seq_cl j hj
  unfold cl
  rw [← a.1, ← b.1]
  exact seq_ne h a.2 b.2 (pos_ne i hi j hj ne)
theorem cl_ba (h : ordB K = true) {i j : Nat} (hi : i < 32) (hj : j < 3) : cl K i ≠ ba K j := by
  have a := seq_cl i hi
  have b := seq_ba j hj
  unfold cl ba
  rw [← a.1, ← b.1]
  exact seq_ne h a.2 b.2 (pos_nb i hi j hj)
theorem ba_ne (h : ordB K = true) {i j : Nat} (hi : i < 3) (hj : j < 3) (ne : i ≠ j) : ba K i ≠ ba K j := by
  have a := seq_ba i hi
  have b := seq_ba j hj
  unfold ba
  rw [← a.1, ← b.1]
  exact seq_ne h a.2 b.2 (pos_bb i hi j hj ne)
theorem fam_lt : ∀ i < 32, famE i < 3 := by decide
theorem base_of : ∀ j < 3, ∃ B idI, BaseX B (newN j) idI (mroX (baseN j)) := fun j hj => match j, hj with
  | 0, _ => ⟨_, _, base_V⟩
  | 1, _ => ⟨_, _, base_L⟩
  | 2, _ => ⟨_, _, base_A⟩
theorem kit_cl {C D : Addr} {cd : ClassData} {b : Bool} (hc : PySem.W.clsIn K C = some cd) (ne : cd.mro.isEmpty = false) (hd : (PySem.W.clsIn K D).isSome = true) (ht : PySem.W.typeIn K (.ref D) = some (.type "type")) (d : C ≠ D) (hm : cd.mro.contains (.ref D) = b) : PySem.W.kitOne K (.ref C) (.ref D) = some b := by
  have e1 : (Value.ref C == Value.ref D) = false := by rw [beq_eq_false_iff_ne]; intro z; cases z; exact d rfl
  have e2 : ((PySem.W.clsIn K D).isSome && PySem.W.typeIn K (.ref D) == some (.type "type")) = true := by rw [hd, ht]; rfl
  unfold PySem.W.kitOne
  rw [e1]
  simp only [Bool.false_eq_true, if_false]
  unfold PySem.W.kitCls
  simp only [e2, if_true]
  show PySem.W.mroIn K C (.ref D) = some b
  unfold PySem.W.mroIn
  rw [hc, Option.bind_some, if_neg (by rw [ne]; exact Bool.false_ne_true), hm]
theorem kit_ty {C : Addr} {cd : ClassData} {T : String} {b : Bool} (hc : PySem.W.clsIn K C = some cd) (ne : cd.mro.isEmpty = false) (hk : PySem.W.kitMeta T = true) (hm : cd.mro.contains (.type T) = b) : PySem.W.kitOne K (.ref C) (.type T) = some b := by
  have e1 : (Value.ref C == Value.type T) = false := by rw [beq_eq_false_iff_ne]; intro z; cases z
  unfold PySem.W.kitOne
  rw [e1]
  simp only [Bool.false_eq_true, if_false]
  unfold PySem.W.kitCls
  simp only [hk, if_true]
  show PySem.W.mroIn K C (.type T) = some b
  unfold PySem.W.mroIn
  rw [hc, Option.bind_some, if_neg (by rw [ne]; exact Bool.false_ne_true), hm]
theorem kit_meta : ∀ n ∈ famB, PySem.W.kitMeta n = true := by decide +kernel
end
end Z
set_option Elab.async false
set_option linter.all false
set_option autoImplicit false
set_option maxRecDepth 100000
set_option maxHeartbeats 0
namespace Z
open PySem PySem.Spec PyProof.Rows L2
abbrev R : PySem.W.OpenRow := PySem.W.OpenLaw.row PySem.Challenge.rw_labelframes_k09_errors_made
def fa : List He.Fa := [.glo "_law_cell", .glo "_law_pool", .glo "_law_draw", .glo "_law_error", .glo "_law_field", .glo "_law_first", .glo "_law_second", .glo "_law_right", .glo "law", .free "isinstance", .free "len", .free "all", .free "range", .free "abs", .free "divmod", .free "max", .free "min", .free "repr", .free "ValueError", .free "LookupError", .free "ArithmeticError", .glo "FrameError", .glo "FindError", .glo "LimitError"] ++ (List.range 32).map fun i => .glo (errN i)
def fn : List ZH.DefA := [
  ⟨fun K => He.ga K "_law_cell", "_law_cell", "_law_cell", defArgs (top 37), defBody (top 37), defScope (top 37), []⟩,
  ⟨fun K => He.ga K "_law_pool", "_law_pool", "_law_pool", defArgs (top 38), defBody (top 38), defScope (top 38), []⟩,
  ⟨fun K => He.ga K "_law_draw", "_law_draw", "_law_draw", defArgs (top 39), defBody (top 39), defScope (top 39), []⟩,
  ⟨fun K => He.ga K "_law_error", "_law_error", "_law_error", defArgs (top 40), defBody (top 40), defScope (top 40), []⟩,
  ⟨fun K => He.ga K "_law_field", "_law_field", "_law_field", defArgs (top 41), defBody (top 41), defScope (top 41), []⟩,
  ⟨fun K => He.ga K "_law_first", "_law_first", "_law_first", defArgs (top 42), defBody (top 42), defScope (top 42), []⟩,
  ⟨fun K => He.ga K "_law_second", "_law_second", "_law_second", defArgs (top 43), defBody (top 43), defScope (top 43), []⟩,
  ⟨fun K => He.ga K "_law_right", "_law_right", "_law_right", defArgs (top 44), defBody (top 44), defScope (top 44), []⟩,
  ⟨fun K => He.ga K "law", "law", "law", defArgs (top 45), defBody (top 45), defScope (top 45), []⟩,
  ⟨fun K => He.ma K (He.ga K "InvalidName") "__init__", "__init__", "InvalidName.__init__", defArgs (inClass (top 2) 0), defBody (inClass (top 2) 0), defScope (inClass (top 2) 0), []⟩,
  ⟨fun K => He.ma K (He.ga K "InvalidSchema") "__init__", "__init__", "InvalidSchema.__init__", defArgs (inClass (top 3) 0), defBody (inClass (top 3) 0), defScope (inClass (top 3) 0), []⟩,
  ⟨fun K => He.ma K (He.ga K "InvalidRows") "__init__", "__init__", "InvalidRows.__init__", defArgs (inClass (top 4) 0), defBody (inClass (top 4) 0), defScope (inClass (top 4) 0), []⟩,
  ⟨fun K => He.ma K (He.ga K "InvalidRow") "__init__", "__init__", "InvalidRow.__init__", defArgs (inClass (top 5) 0), defBody (inClass (top 5) 0), defScope (inClass (top 5) 0), []⟩,
  ⟨fun K => He.ma K (He.ga K "InvalidValue") "__init__", "__init__", "InvalidValue.__init__", defArgs (inClass (top 6) 0), defBody (inClass (top 6) 0), defScope (inClass (top 6) 0), []⟩,
  ⟨fun K => He.ma K (He.ga K "InvalidExpression") "__init__", "__init__", "InvalidExpression.__init__", defArgs (inClass (top 7) 0), defBody (inClass (top 7) 0), defScope (inClass (top 7) 0), []⟩,
  ⟨fun K => He.ma K (He.ga K "InvalidPlan") "__init__", "__init__", "InvalidPlan.__init__", defArgs (inClass (top 8) 0), defBody (inClass (top 8) 0), defScope (inClass (top 8) 0), []⟩,
  ⟨fun K => He.ma K (He.ga K "InvalidSchemas") "__init__", "__init__", "InvalidSchemas.__init__", defArgs (inClass (top 9) 0), defBody (inClass (top 9) 0), defScope (inClass (top 9) 0), []⟩,
  ⟨fun K => He.ma K (He.ga K "InvalidFeed") "__init__", "__init__", "InvalidFeed.__init__", defArgs (inClass (top 10) 0), defBody (inClass (top 10) 0), defScope (inClass (top 10) 0), []⟩,
  ⟨fun K => He.ma K (He.ga K "InvalidNumber") "__init__", "__init__", "InvalidNumber.__init__", defArgs (inClass (top 11) 0), defBody (inClass (top 11) 0), defScope (inClass (top 11) 0), []⟩,
  ⟨fun K => He.ma K (He.ga K "InvalidSteps") "__init__", "__init__", "InvalidSteps.__init__", defArgs (inClass (top 12) 0), defBody (inClass (top 12) 0), defScope (inClass (top 12) 0), []⟩,
  ⟨fun K => He.ma K (He.ga K "InvalidPath") "__init__", "__init__", "InvalidPath.__init__", defArgs (inClass (top 13) 0), defBody (inClass (top 13) 0), defScope (inClass (top 13) 0), []⟩,
  ⟨fun K => He.ma K (He.ga K "InvalidText") "__init__", "__init__", "InvalidText.__init__", defArgs (inClass (top 14) 0), defBody (inClass (top 14) 0), defScope (inClass (top 14) 0), []⟩,
  ⟨fun K => He.ma K (He.ga K "InvalidAction") "__init__", "__init__", "InvalidAction.__init__", defArgs (inClass (top 15) 0), defBody (inClass (top 15) 0), defScope (inClass (top 15) 0), []⟩,
  ⟨fun K => He.ma K (He.ga K "InvalidLine") "__init__", "__init__", "InvalidLine.__init__", defArgs (inClass (top 16) 0), defBody (inClass (top 16) 0), defScope (inClass (top 16) 0), []⟩,
  ⟨fun K => He.ma K (He.ga K "NotAFrame") "__init__", "__init__", "NotAFrame.__init__", defArgs (inClass (top 17) 0), defBody (inClass (top 17) 0), defScope (inClass (top 17) 0), []⟩,
  ⟨fun K => He.ma K (He.ga K "NotAHouse") "__init__", "__init__", "NotAHouse.__init__", defArgs (inClass (top 18) 0), defBody (inClass (top 18) 0), defScope (inClass (top 18) 0), []⟩,
  ⟨fun K => He.ma K (He.ga K "NotAnExpr") "__init__", "__init__", "NotAnExpr.__init__", defArgs (inClass (top 19) 0), defBody (inClass (top 19) 0), defScope (inClass (top 19) 0), []⟩,
  ⟨fun K => He.ma K (He.ga K "NotAPipe") "__init__", "__init__", "NotAPipe.__init__", defArgs (inClass (top 20) 0), defBody (inClass (top 20) 0), defScope (inClass (top 20) 0), []⟩,
  ⟨fun K => He.ma K (He.ga K "NotASheet") "__init__", "__init__", "NotASheet.__init__", defArgs (inClass (top 21) 0), defBody (inClass (top 21) 0), defScope (inClass (top 21) 0), []⟩,
  ⟨fun K => He.ma K (He.ga K "UnknownSource") "__init__", "__init__", "UnknownSource.__init__", defArgs (inClass (top 23) 0), defBody (inClass (top 23) 0), defScope (inClass (top 23) 0), []⟩,
  ⟨fun K => He.ma K (He.ga K "UnknownColumn") "__init__", "__init__", "UnknownColumn.__init__", defArgs (inClass (top 24) 0), defBody (inClass (top 24) 0), defScope (inClass (top 24) 0), []⟩,
  ⟨fun K => He.ma K (He.ga K "DoubleColumn") "__init__", "__init__", "DoubleColumn.__init__", defArgs (inClass (top 25) 0), defBody (inClass (top 25) 0), defScope (inClass (top 25) 0), []⟩,
  ⟨fun K => He.ma K (He.ga K "WrongKind") "__init__", "__init__", "WrongKind.__init__", defArgs (inClass (top 26) 0), defBody (inClass (top 26) 0), defScope (inClass (top 26) 0), []⟩,
  ⟨fun K => He.ma K (He.ga K "DoesNotApply") "__init__", "__init__", "DoesNotApply.__init__", defArgs (inClass (top 28) 0), defBody (inClass (top 28) 0), defScope (inClass (top 28) 0), []⟩,
  ⟨fun K => He.ma K (He.ga K "TooMany") "__init__", "__init__", "TooMany.__init__", defArgs (inClass (top 35) 0), defBody (inClass (top 35) 0), defScope (inClass (top 35) 0), []⟩
]
abbrev hk : PySem.W.Hook := ZH.hook 6 fa errAllB fn
def ob (s : PySem.W.SharedT) : He.AlD := ZH.obsG 6 fa errAllB fn (HandSHeadRun.getT s)
theorem ob_eq (s : PySem.W.SharedT) : ob s = hk.obs s.abs := ZH.obs_eq (HandSHeadRun.getT_eq s)
def loose : List PySem.Str := (["FrameError", "InvalidName", "InvalidSchema", "InvalidRows", "InvalidRow", "InvalidValue", "InvalidExpression", "InvalidPlan", "InvalidSchemas", "InvalidFeed", "InvalidNumber", "InvalidSteps"] : List PySem.Str) ++ (["InvalidPath", "InvalidText", "InvalidAction", "InvalidLine", "NotAFrame", "NotAHouse", "NotAnExpr", "NotAPipe", "NotASheet", "FindError", "UnknownSource", "UnknownColumn"] : List PySem.Str) ++ (["DoubleColumn", "WrongKind", "DifferentSchemas", "DoesNotApply", "NotSimple", "NoText", "Closed", "Busy", "NothingToUndo", "LimitError", "TooMany", "_law_cell"] : List PySem.Str) ++ (["_law_pool", "_law_draw", "_law_error", "_law_field", "_law_first", "_law_second", "_law_right"] : List PySem.Str)
theorem run (w : World) : HandSHeadRun.RunEq R (PySem.W.view R.prog [45]) hk ob 30000 loose w := by
  intro os
  kernel_rfl
end Z
set_option Elab.async false
set_option linter.all false
set_option autoImplicit false
set_option maxRecDepth 100000
set_option maxHeartbeats 4000000
namespace Z
open PySem PySem.Spec PyProof.Rows L2
section
variable {P : Program} {w : World} {K : PySem.W.Frag} {h : Heap} {mg : Str → Option Value}
theorem says_mem (c : ZH.Says fa errAllB fn K) {f : He.Fa} (m : f ∈ fa) : f.ok K = true := by
  obtain ⟨i, e⟩ := List.mem_iff_getElem?.mp m
  exact c.fact i e
theorem def0 (X : K.In h) (G : h.Ns mainGlobals mg) (c : ZH.Says fa errAllB fn K) {x : Str} {st : Stmt} (i j : Nat) (hi : fa[i]? = some (.glo x)) (hj : fn[j]? = some ⟨fun K => He.ga K x, x, x, defArgs st, defBody st, defScope st, []⟩) : Def0 K mg x st := by
  obtain ⟨fd, F⟩ := c.def_ j hj
  exact ⟨He.ga K x, fd, F, He.glo_ok X G (c.fact i hi)⟩
theorem txt (X : K.In h) (G : h.Ns mainGlobals mg) (c : ZH.Says fa errAllB fn K) : Txt K mg where
  z_isinstance := He.free_ok X G (c.fact 9 rfl)
  z_len := He.free_ok X G (c.fact 10 rfl)
  z_all := He.free_ok X G (c.fact 11 rfl)
  z_range := He.free_ok X G (c.fact 12 rfl)
  z_abs := He.free_ok X G (c.fact 13 rfl)
  z_divmod := He.free_ok X G (c.fact 14 rfl)
  z_max := He.free_ok X G (c.fact 15 rfl)
  z_min := He.free_ok X G (c.fact 16 rfl)
  z_repr := He.free_ok X G (c.fact 17 rfl)
  z_ValueError := He.free_ok X G (c.fact 18 rfl)
  z_LookupError := He.free_ok X G (c.fact 19 rfl)
  z_ArithmeticError := He.free_ok X G (c.fact 20 rfl)
theorem one_ok (c : errAllB K = true) {i : Nat} (hi : i < 32) : ErrC K (cl K i) ∧ (∃ cd, PySem.W.clsIn K (cl K i) = some cd ∧ cd.mro = .ref (cl K i) :: .ref (ba K (famE i)) :: mroX (baseN (famE i))) ∧ PySem.W.typeIn K (.ref (cl K i)) = some (.type "type") := by
  unfold errAllB twoB at c
  simp only [Bool.and_eq_true] at c
  obtain ⟨_, ⟨c1, c2, _⟩, c3⟩ := c
  have z := List.all_eq_true.mp c3 i (List.mem_range.mpr hi)
  unfold oneB at z
  simp only [Bool.and_eq_true, decide_eq_true_eq] at z
  obtain ⟨⟨z1, z2, z3, z4, z5, z6, z7, z8, z9, z10, z11, z12⟩, _⟩ := z
  obtain ⟨B, idI, bx⟩ := base_of (famE i) (fam_lt i hi)
  refine ⟨⟨⟨B, _, idI, _, bx, z1, z2⟩, He.eqO_ok z3, z4, ⟨He.eqO_ok z5, He.eqO_ok z6, z7, z8, He.eqO_ok z9, He.eqO_ok c1, of_decide_eq_true c2, z10⟩⟩, ?_, z12⟩
  cases q : PySem.W.clsIn K (cl K i) with
  | none => rw [q] at z11; cases z11
  | some cd => rw [q] at z11; exact ⟨cd, rfl, of_decide_eq_true z11⟩
theorem fld_ok (c : errAllB K = true) {i : Nat} (hi : i < 32) : fldB K i = true := by
  unfold errAllB at c
  simp only [Bool.and_eq_true] at c
  have z := List.all_eq_true.mp c.2.2 i (List.mem_range.mpr hi)
  rw [Bool.and_eq_true] at z
  exact z.2
theorem ba_ok (c : errAllB K = true) {j : Nat} (hj : j < 3) : (PySem.W.clsIn K (ba K j)).isSome = true ∧ PySem.W.typeIn K (.ref (ba K j)) = some (.type "type") := by
  unfold errAllB twoB at c
  simp only [Bool.and_eq_true] at c
  have z := List.all_eq_true.mp c.2.1.2.2 j (List.mem_range.mpr hj)
  rw [Bool.and_eq_true] at z
  exact ⟨z.1, of_decide_eq_true z.2⟩
theorem lt_errs {i : Nat} {q : Str × Option Str} (e : errs[i]? = some q) : i < 32 := (List.getElem?_eq_some_iff.mp e).1
theorem errN_of {i : Nat} {n : Str} {o : Option Str} (e : errs[i]? = some (n, o)) : errN i = n := by unfold errN; rw [e]; rfl
theorem errT {base : Heap} (X : K.In h) (G : h.Ns mainGlobals mg) (c : ZH.Says fa errAllB fn K)
    (ini : ∀ i n f, errs[i]? = some (n, some f) → ErrC K (cl K i) → PySem.W.findIn K (.ref (cl K i)) f = some none → ∃ fd, IniOk P w K mg base (cl K i) (He.ma K (cl K i) "__init__") fd f) : ErrT P w K mg base (cl K) (ba K) := by
  have e := c.more
  have o : ordB K = true := by
    unfold errAllB at e
    rw [Bool.and_eq_true] at e
    exact e.1
  have g : ∀ i, i < 32 → mg (errN i) = some (.ref (cl K i)) := fun i hi => He.glo_ok X G (says_mem c (List.mem_append_right _ (List.mem_map.mpr ⟨i, List.mem_range.mpr hi, rfl⟩)))
  refine { em := fun i n f hn => ?_, en := fun i n hn => ?_, is := fun i j hi hj => ?_, bs := fun i j hi hj => ?_, bt := fun i j n hi hn => ?_, gb := fun j n hn => ?_ }
  · have hi := lt_errs hn
    obtain ⟨ec, _, _⟩ := one_ok e hi
    have z := fld_ok e hi
    unfold fldB at z
    rw [hn] at z
    simp only [Bool.and_eq_true, decide_eq_true_eq] at z
    obtain ⟨fd, y1, y2, y3⟩ := ini i n f hn ec (He.eqO_ok z.1)
    exact ⟨by rw [← errN_of hn]; exact g i hi, ec, He.eqO_ok z.1, _, fd, He.eqO_ok z.2.1, z.2.2, y1, y2, y3⟩
  · have hi := lt_errs hn
    obtain ⟨ec, _, _⟩ := one_ok e hi
    have z := fld_ok e hi
    unfold fldB at z
    rw [hn] at z
    obtain ⟨B, idI, bx⟩ := base_of (famE i) (fam_lt i hi)
    exact ⟨by rw [← errN_of hn]; exact g i hi, ec, B, _, idI, _, bx, z⟩
  · obtain ⟨_, ⟨cd, h1, h2⟩, _⟩ := one_ok e hi
    obtain ⟨_, ⟨cd2, h3, _⟩, h4⟩ := one_ok e hj
    by_cases ij : i = j
    · subst ij
      unfold PySem.W.kitOne
      rw [if_pos (by rw [beq_iff_eq])]
      simp
    · have d1 := cl_ne o hi hj ij
      have d2 := cl_ba o hj (fam_lt i hi)
      refine kit_cl h1 (by rw [h2]; rfl) (by rw [h3]; rfl) h4 d1 ?_
      rw [h2, decide_eq_false ij]
      have n1 : (Value.ref (cl K j) == Value.ref (cl K i)) = false := by rw [beq_eq_false_iff_ne]; intro z; exact d1 (Value.ref.inj z).symm
      have n2 : (Value.ref (cl K j) == Value.ref (ba K (famE i))) = false := by rw [beq_eq_false_iff_ne]; intro z; exact d2 (Value.ref.inj z)
      rw [List.contains_cons, List.contains_cons, n1, n2]
      rfl
  · obtain ⟨_, ⟨cd, h1, h2⟩, _⟩ := one_ok e hi
    obtain ⟨b1, b2⟩ := ba_ok e hj
    have d1 := cl_ba o hi hj
    refine kit_cl h1 (by rw [h2]; rfl) b1 b2 d1 ?_
    rw [h2]
    have n1 : (Value.ref (ba K j) == Value.ref (cl K i)) = false := by rw [beq_eq_false_iff_ne]; intro z; exact d1 (Value.ref.inj z).symm
    rw [List.contains_cons, List.contains_cons, n1]
    by_cases q : famE i = j
    · rw [decide_eq_true q, q]; simp
    · have n2 : (Value.ref (ba K j) == Value.ref (ba K (famE i))) = false := by rw [beq_eq_false_iff_ne]; intro z; exact ba_ne o (fam_lt i hi) hj q (Value.ref.inj z).symm
      rw [decide_eq_false q, n2]
      rfl
  · obtain ⟨_, ⟨cd, h1, h2⟩, _⟩ := one_ok e hi
    have hj : j < 3 := (List.getElem?_eq_some_iff.mp hn).1
    refine kit_ty h1 (by rw [h2]; rfl) (kit_meta n (List.mem_of_getElem? hn)) ?_
    rw [h2, List.contains_cons, List.contains_cons]
    have t : ∀ f < 3, ∀ j < 3, ∀ n, famB[j]? = some n → (mroX (baseN f)).contains (.type n) = decide (f = j) := by
      intro f hf j hj n hn
      match f, hf, j, hj with
      | 0, _, 0, _ => cases hn; decide +kernel
      | 0, _, 1, _ => cases hn; decide +kernel
      | 0, _, 2, _ => cases hn; decide +kernel
      | 1, _, 0, _ => cases hn; decide +kernel
      | 1, _, 1, _ => cases hn; decide +kernel
      | 1, _, 2, _ => cases hn; decide +kernel
      | 2, _, 0, _ => cases hn; decide +kernel
      | 2, _, 1, _ => cases hn; decide +kernel
      | 2, _, 2, _ => cases hn; decide +kernel
    rw [t _ (fam_lt i hi) j hj n hn]
    rfl
  · have hj : j < 3 := (List.getElem?_eq_some_iff.mp hn).1
    match j, hj with
    | 0, _ => cases hn; exact He.glo_ok X G (c.fact 21 rfl)
    | 1, _ => cases hn; exact He.glo_ok X G (c.fact 22 rfl)
    | 2, _ => cases hn; exact He.glo_ok X G (c.fact 23 rfl)
theorem inis {base : Heap} (c : ZH.Says fa errAllB fn K) : ∀ i n f, errs[i]? = some (n, some f) → ErrC K (cl K i) → PySem.W.findIn K (.ref (cl K i)) f = some none → ∃ fd, IniOk P w K mg base (cl K i) (He.ma K (cl K i) "__init__") fd f := by
  intro i n f hn ec no
  have hi := lt_errs hn
  match i, hi with
  | 0, _ =>
    cases hn
    obtain ⟨fd, F⟩ := c.def_ 9 rfl
    exact ⟨fd, in_InvalidName ec no F⟩
  | 1, _ =>
    cases hn
    obtain ⟨fd, F⟩ := c.def_ 10 rfl
    exact ⟨fd, in_InvalidSchema ec no F⟩
  | 2, _ =>
    cases hn
    obtain ⟨fd, F⟩ := c.def_ 11 rfl
    exact ⟨fd, in_InvalidRows ec no F⟩
  | 3, _ =>
    cases hn
    obtain ⟨fd, F⟩ := c.def_ 12 rfl
    exact ⟨fd, in_InvalidRow ec no F⟩
  | 4, _ =>
    cases hn
    obtain ⟨fd, F⟩ := c.def_ 13 rfl
    exact ⟨fd, in_InvalidValue ec no F⟩
  | 5, _ =>
    cases hn
    obtain ⟨fd, F⟩ := c.def_ 14 rfl
    exact ⟨fd, in_InvalidExpression ec no F⟩
  | 6, _ =>
    cases hn
    obtain ⟨fd, F⟩ := c.def_ 15 rfl
    exact ⟨fd, in_InvalidPlan ec no F⟩
  | 7, _ =>
    cases hn
    obtain ⟨fd, F⟩ := c.def_ 16 rfl
    exact ⟨fd, in_InvalidSchemas ec no F⟩
  | 8, _ =>
    cases hn
    obtain ⟨fd, F⟩ := c.def_ 17 rfl
    exact ⟨fd, in_InvalidFeed ec no F⟩
  | 9, _ =>
    cases hn
    obtain ⟨fd, F⟩ := c.def_ 18 rfl
    exact ⟨fd, in_InvalidNumber ec no F⟩
  | 10, _ =>
    cases hn
    obtain ⟨fd, F⟩ := c.def_ 19 rfl
    exact ⟨fd, in_InvalidSteps ec no F⟩
  | 11, _ =>
    cases hn
    obtain ⟨fd, F⟩ := c.def_ 20 rfl
    exact ⟨fd, in_InvalidPath ec no F⟩
  | 12, _ =>
    cases hn
    obtain ⟨fd, F⟩ := c.def_ 21 rfl
    exact ⟨fd, in_InvalidText ec no F⟩
  | 13, _ =>
    cases hn
    obtain ⟨fd, F⟩ := c.def_ 22 rfl
    exact ⟨fd, in_InvalidAction ec no F⟩
  | 14, _ =>
    cases hn
    obtain ⟨fd, F⟩ := c.def_ 23 rfl
    exact ⟨fd, in_InvalidLine ec no F⟩
  | 15, _ =>
    cases hn
    obtain ⟨fd, F⟩ := c.def_ 24 rfl
    exact ⟨fd, in_NotAFrame ec no F⟩
  | 16, _ =>
    cases hn
    obtain ⟨fd, F⟩ := c.def_ 25 rfl
    exact ⟨fd, in_NotAHouse ec no F⟩
  | 17, _ =>
    cases hn
    obtain ⟨fd, F⟩ := c.def_ 26 rfl
    exact ⟨fd, in_NotAnExpr ec no F⟩
  | 18, _ =>
    cases hn
    obtain ⟨fd, F⟩ := c.def_ 27 rfl
    exact ⟨fd, in_NotAPipe ec no F⟩
  | 19, _ =>
    cases hn
    obtain ⟨fd, F⟩ := c.def_ 28 rfl
    exact ⟨fd, in_NotASheet ec no F⟩
  | 20, _ =>
    cases hn
    obtain ⟨fd, F⟩ := c.def_ 29 rfl
    exact ⟨fd, in_UnknownSource ec no F⟩
  | 21, _ =>
    cases hn
    obtain ⟨fd, F⟩ := c.def_ 30 rfl
    exact ⟨fd, in_UnknownColumn ec no F⟩
  | 22, _ =>
    cases hn
    obtain ⟨fd, F⟩ := c.def_ 31 rfl
    exact ⟨fd, in_DoubleColumn ec no F⟩
  | 23, _ =>
    cases hn
    obtain ⟨fd, F⟩ := c.def_ 32 rfl
    exact ⟨fd, in_WrongKind ec no F⟩
  | 25, _ =>
    cases hn
    obtain ⟨fd, F⟩ := c.def_ 33 rfl
    exact ⟨fd, in_DoesNotApply ec no F⟩
  | 31, _ =>
    cases hn
    obtain ⟨fd, F⟩ := c.def_ 34 rfl
    exact ⟨fd, in_TooMany ec no F⟩
  | 24, _ => cases hn
  | 26, _ => cases hn
  | 27, _ => cases hn
  | 28, _ => cases hn
  | 29, _ => cases hn
  | 30, _ => cases hn
theorem facts (X : K.In h) (G : h.Ns mainGlobals mg) {f : Addr} (hfa : mg ("law" : Str) = some (.ref f)) (c : ZH.Says fa errAllB fn K) :
    ∃ fd : FuncData, (∀ (s : Shared) (v : Value), BindsTo s fd ⟨[v], []⟩ [("script", v)]) ∧ ∀ base : Heap, K.In base → base.Ns mainGlobals mg → FnG P w K mg base CX0 5 f fd ["script"] (spLaw K) := by
  have T := txt X G c
  obtain ⟨fd, FL⟩ := c.def_ 8 rfl
  have e := hfa.symm.trans (He.glo_ok X G (c.fact 8 rfl))
  cases e
  have D__law_cell := def0 X G c (x := "_law_cell") 0 0 rfl rfl
  have D__law_pool := def0 X G c (x := "_law_pool") 1 1 rfl rfl
  have D__law_draw := def0 X G c (x := "_law_draw") 2 2 rfl rfl
  have D__law_error := def0 X G c (x := "_law_error") 3 3 rfl rfl
  have D__law_field := def0 X G c (x := "_law_field") 4 4 rfl rfl
  have D__law_first := def0 X G c (x := "_law_first") 5 5 rfl rfl
  have D__law_second := def0 X G c (x := "_law_second") 6 6 rfl rfl
  have D__law_right := def0 X G c (x := "_law_right") 7 7 rfl rfl
  have b := FunD.bindsA (ps := ["script"]) FL fun _ _ _ _ _ _ us hl => match us, hl with | [_], _ => rfl
  refine ⟨fd, fun s v => b s [v] rfl, fun base _ _ => ?_⟩
  have ET := errT (P := P) (w := w) (base := base) X G c (inis c)
  have F_cell := kn__law_cell (P := P) (w := w) (base := base) D__law_cell T
  have F_pool := kn__law_pool (P := P) (w := w) (base := base) D__law_pool T
  have F_draw := kn__law_draw (P := P) (w := w) (base := base) D__law_draw T
  have F_error := kn__law_error D__law_error T ET
  have F_field := kn__law_field D__law_field T ET
  have F_first := kn__law_first D__law_first T ET
  have F_second := kn__law_second D__law_second T ET
  have F_right := kn__law_right D__law_right T ET F_draw F_error F_field F_first F_second
  exact ok_law FL T F_cell F_pool F_right
end
end Z
open PySem PySem.W PySem.Calls PyProof.Rows
theorem PySem.Challenge.cw_labelframes_k09_errors_made_holds : PySem.Challenge.rw_labelframes_k09_errors_made.Holds := by
  w_on; o_law
  refine HandSHeadRun.head_any (r := OpenLaw.row PySem.Challenge.rw_labelframes_k09_errors_made) (q := view (OpenLaw.row PySem.Challenge.rw_labelframes_k09_errors_made).prog [45]) (H := Z.hk) (ob := Z.ob) (M := 30000) (loose := Z.loose) (d := HandSHeadRun.topDef (OpenLaw.row PySem.Challenge.rw_labelframes_k09_errors_made).prog 45) (kwd := []) Z.ob_eq
    (by kernel_rfl) (fun s => by kernel_rfl) Z.run (by kernel_rfl) (by kernel_rfl) (by kernel_rfl) (by rfl) (by first | assumption | decide +kernel) (by decide +kernel) ⟨rfl, rfl, rfl, rfl, rfl, by decide +kernel⟩ ?hw ?hc
  case hw => w_witness2
  case hc =>
    refine Z.walk_G (l := PySem.Challenge.rw_labelframes_k09_errors_made) (n := 63) (k := 5) (x := "script") (CX := L2.CX0) rfl (by decide) (by kernel_rfl) ⟨rfl, by decide, by decide⟩ ?F (fun _ _ _ _ z => z)
    intro w mg fa h Y G hmg0
    obtain ⟨K, KX, c⟩ := Y
    have hmg : mg ("law" : PySem.Str) = some (.ref fa) := by
      rw [← (show (HandSHeadRun.topDef (OpenLaw.row PySem.Challenge.rw_labelframes_k09_errors_made).prog 45).name = ("law" : PySem.Str) by kernel_rfl)]
      exact hmg0
    obtain ⟨fd, hb, hF⟩ := Z.facts (P := (PySem.Challenge.rw_labelframes_k09_errors_made).prog) (w := w) KX G hmg c
    exact ⟨K, fd, Z.spLaw K, KX, hb, fun H a ns hl _ hS => ⟨a, ns, rfl, hS, hl, fun _ => rfl⟩, hF⟩
#print axioms PySem.Challenge.cw_labelframes_k09_errors_made_holds
