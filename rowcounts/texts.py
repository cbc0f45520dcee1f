"""The texts of bases, stores and plans, line by line."""

from rowcounts.bases import Base
from rowcounts.errors import BadBase, BadPlan, BadStore
from rowcounts.plans import Plan
from rowcounts.stores import Store


def base_text(base):
    """The text of a base."""
    if not isinstance(base, Base):
        raise BadBase("base")
    return "\n".join(base_lines(base))


def store_text(store):
    """The text of a store."""
    if not isinstance(store, Store):
        raise BadStore("store")
    rules = [f"rule {rule}" for rule in store.rules]
    followed = store.followed()
    watched = [f"watch {title} {followed[title]}" for title in store.titles]
    return "\n".join([*base_lines(store.base), *rules, *watched])


def plan_text(plan):
    """The text of a plan, with the question as it is now."""
    if not isinstance(plan, Plan):
        raise BadPlan("plan")
    return "\n".join([f"plan {plan.question}", *[f"rewrite {rewrite}" for rewrite in plan.rewrites]])


def base_lines(base):
    """A list of the lines of a base."""
    columns = " ".join(base.columns)
    return [f"base {columns}", *[f"table {name} {base[name]}" for name in base.names]]
